/- Layer 4: moving one unit makes the sum of the squares not less. -/
import Derived.Test.YthhihdihkddakaaGreatDoorAF
import Derived.Test.YthhihdihkddakaaGreatDoorMScales
import Derived.Deep.DeepCutAuto
import Derived.Laws.NewBlocks
namespace Go.Proofs.YthhihdihkddakaaGreatDoor
open Fra

namespace Num
/-- W times the difference to the ideal part -/
def ovr (T : Int) (W : Nat) (w : Nat → Nat) (n i : Nat) : Int := splitP T W w n i * (W : Nat) - T * (w i : Nat)
theorem ovr_eq {T : Int} {W n : Nat} {w : Nat → Nat} (k : Nat) : ovr T W w n k = if T < 0 then -overP T.natAbs W w n k else overP T.natAbs W w n k := by
  unfold ovr splitP overP
  have e1 : ((W * partP T.natAbs W w n k : Nat) : Int) = (partP T.natAbs W w n k : Int) * (W : Int) := by rw [Int.natCast_mul, Int.mul_comm]
  have e2 : ((T.natAbs * w k : Nat) : Int) = (T.natAbs : Int) * (w k : Int) := Int.natCast_mul _ _
  rw [e1, e2]
  by_cases hT : T < 0
  · rw [if_pos hT, if_pos hT, show (T.natAbs : Int) = -T by omega, Int.neg_mul, Int.neg_mul]; omega
  · rw [if_neg hT, if_neg hT, show (T.natAbs : Int) = T by omega]
theorem split_nearest {T : Int} {W n i j : Nat} {w : Nat → Nat} (h0 : 0 < W) (hi : i < n) (hj : j < n) : ovr T W w n i - ovr T W w n j ≤ W := by
  rw [ovr_eq, ovr_eq]
  have h1 := part_nearest (T := T.natAbs) (w := w) h0 hi hj
  have h2 := part_nearest (T := T.natAbs) (w := w) h0 hj hi
  by_cases hT : T < 0
  · rw [if_pos hT, if_pos hT]; omega
  · rw [if_neg hT, if_neg hT]; omega
theorem sq_move {p q W : Int} (h0 : 0 < W) (h : p - q ≤ W) : p * p + q * q ≤ (p - W) * (p - W) + (q + W) * (q + W) := by
  have h1 : 0 ≤ W * (W - (p - q)) := Int.mul_nonneg (by omega) (by omega)
  simp only [Int.mul_sub] at h1
  simp only [Int.sub_mul, Int.mul_sub, Int.add_mul, Int.mul_add]
  rw [Int.mul_comm p W, Int.mul_comm q W]
  omega
end Num

/-- z less the ideal part -/
def dif (z T : Int) (W m : Nat) : Int × Int := subP (z, 1) (red (T * (m : Nat)) (W : Nat))
theorem dif_eq {z T : Int} {W m : Nat} (h0 : 0 < W) : dif z T W m = red (z * (W : Nat) - T * (m : Nat)) (W : Nat) := by
  have hp : 0 < (red (T * (m : Nat)) (W : Nat)).2 := red_pos (by omega)
  have hW : (0 : Int) < (W : Nat) := by omega
  unfold dif
  rw [subP_eq Int.one_pos hp, negP_congr (z := (T * (m : Nat), (W : Nat))) hp hW (same_red _ _),
    addP_congr (x := (z, 1)) (z := (z, 1)) (w := (-(T * (m : Nat)), (W : Nat))) Int.one_pos (negP_pos (x := (T * (m : Nat), ((W : Nat) : Int))) hW) Int.one_pos hW rfl (same_red _ _)]
  unfold addP
  simp only [Int.mul_one, Int.one_mul]
  rw [Int.sub_eq_add_neg]
theorem dif_pos {z T : Int} {W m : Nat} (h0 : 0 < W) : 0 < (dif z T W m).2 := by rw [dif_eq h0]; exact red_pos (by omega)
theorem sq_red {p W : Int} (h0 : 0 < W) : mulP (red p W) (red p W) = red (p * p) (W * W) := by
  rw [mulP_congr (z := (p, W)) (w := (p, W)) (red_pos h0) (red_pos h0) h0 h0 (same_red _ _) (same_red _ _)]
  rfl
theorem add_red {a b D : Int} (h0 : 0 < D) : addP (red a D) (red b D) = red (a * D + b * D) (D * D) := by
  rw [addP_congr (z := (a, D)) (w := (b, D)) (red_pos h0) (red_pos h0) h0 h0 (same_red _ _) (same_red _ _)]
  rfl
theorem cmp_red {a b E : Int} (h0 : 0 < E) (h : a ≤ b) : 0 ≤ cmpP (red b E) (red a E) := by
  rw [cmpP_congr (z := (b, E)) (w := (a, E)) (red_pos h0) (red_pos h0) h0 h0 (same_red _ _) (same_red _ _)]
  unfold cmpP cmp3
  have := Int.mul_le_mul_of_nonneg_right h (Int.le_of_lt h0)
  dsimp only
  rw [if_neg (by omega)]
  split <;> omega
/-- the two differences, squared and added up -/
def sqs (x y T : Int) (W m k : Nat) : Int × Int := addP (mulP (dif x T W m) (dif x T W m)) (mulP (dif y T W k) (dif y T W k))
theorem sqs_eq {x y T : Int} {W m k : Nat} (h0 : 0 < W) : sqs x y T W m k = red (((x * (W : Nat) - T * (m : Nat)) * (x * (W : Nat) - T * (m : Nat)) + (y * (W : Nat) - T * (k : Nat)) * (y * (W : Nat) - T * (k : Nat))) * ((W : Int) * (W : Int))) ((W : Int) * (W : Int) * ((W : Int) * (W : Int))) := by
  have hW : (0 : Int) < (W : Nat) := by omega
  unfold sqs
  rw [dif_eq h0, dif_eq h0, sq_red hW, sq_red hW, add_red (Int.mul_pos hW hW), Int.add_mul]
theorem sqs_move {T : Int} {W n i j : Nat} {w : Nat → Nat} (h0 : 0 < W) (hi : i < n) (hj : j < n) :
    0 ≤ cmpP (sqs (Num.splitP T W w n i - 1) (Num.splitP T W w n j + 1) T W (w i) (w j)) (sqs (Num.splitP T W w n i - 0) (Num.splitP T W w n j + 0) T W (w i) (w j)) := by
  have hW : (0 : Int) < (W : Nat) := by omega
  have hn := Num.split_nearest (T := T) (w := w) h0 hi hj
  have hs := Num.sq_move hW hn
  unfold Num.ovr at hs
  rw [sqs_eq h0, sqs_eq h0]
  refine cmp_red (Int.mul_pos (Int.mul_pos hW hW) (Int.mul_pos hW hW)) (Int.mul_le_mul_of_nonneg_right ?_ (Int.le_of_lt (Int.mul_pos hW hW)))
  rw [Int.sub_zero, Int.add_zero, Int.sub_mul _ 1, Int.add_mul _ 1, Int.one_mul]
  rw [show Num.splitP T W w n i * (W : Int) - (W : Int) - T * (w i : Int) = Num.splitP T W w n i * (W : Int) - T * (w i : Int) - (W : Int) by omega, show Num.splitP T W w n j * (W : Int) + (W : Int) - T * (w j : Int) = Num.splitP T W w n j * (W : Int) - T * (w j : Int) + (W : Int) by omega]
  exact hs

end Go.Proofs.YthhihdihkddakaaGreatDoor

/- the law AllocateNearest: the walk. -/
namespace Go.Proofs.YthhihdihkddakaaGreatDoor
open Go.RowKit Fra

/-- what the closure reads -/
structure NearW (W : World) (LB FB IB TB P Q n f g : Nat) (sf sg uf vf ug vg : ByteArray) : Prop where
  ccl : W.cell? ⟨LB, 0, none⟩ = some (.slice (some ⟨P, 0, none⟩) n n)
  ccf : W.cell? ⟨FB, 0, none⟩ = some (.int .i64 (f : Nat))
  cci : W.cell? ⟨IB, 0, none⟩ = some (.slice (some ⟨Q, 0, none⟩) n n)
  cct : W.cell? ⟨TB, 0, none⟩ = some (.int .i64 (g : Nat))
  cpf : W.cell? ⟨P, f, none⟩ = some (.string sf)
  cpg : W.cell? ⟨P, g, none⟩ = some (.string sg)
  cuf : W.cell? ⟨Q, f * 2, none⟩ = some (.string uf)
  cvf : W.cell? ⟨Q, f * 2 + 1, none⟩ = some (.string vf)
  cug : W.cell? ⟨Q, g * 2, none⟩ = some (.string ug)
  cvg : W.cell? ⟨Q, g * 2 + 1, none⟩ = some (.string vg)
theorem NearW.next {W W' : World} {LB FB IB TB P Q n f g : Nat} {sf sg uf vf ug vg : ByteArray} (h : NearW W LB FB IB TB P Q n f g sf sg uf vf ug vg) (hb : Below W.heap.size W W') : NearW W' LB FB IB TB P Q n f g sf sg uf vf ug vg :=
  ⟨(hb.cell (World.block_lt_of_cell? W _ h.ccl)).trans h.ccl, (hb.cell (World.block_lt_of_cell? W _ h.ccf)).trans h.ccf, (hb.cell (World.block_lt_of_cell? W _ h.cci)).trans h.cci, (hb.cell (World.block_lt_of_cell? W _ h.cct)).trans h.cct, (hb.cell (World.block_lt_of_cell? W _ h.cpf)).trans h.cpf, (hb.cell (World.block_lt_of_cell? W _ h.cpg)).trans h.cpg, (hb.cell (World.block_lt_of_cell? W _ h.cuf)).trans h.cuf, (hb.cell (World.block_lt_of_cell? W _ h.cvf)).trans h.cvf, (hb.cell (World.block_lt_of_cell? W _ h.cug)).trans h.cug, (hb.cell (World.block_lt_of_cell? W _ h.cvg)).trans h.cvg⟩

set_option maxRecDepth 100000 in
set_option maxHeartbeats 16000000 in
theorem aSquares (w : World) (hG : Ground w) (LB FB IB TB P Q n f g : Nat) (sf sg uf vf ug vg m x1 y1 an ad bn bd cn cd dn dd rn rd : ByteArray) (hN : NearW w LB FB IB TB P Q n f g sf sg uf vf ug vg) (hf : f < n) (hg : g < n)
    (h1 : Ret 35 #[.string sf, .string m] (.string x1)) (h2 : Ret 41 #[.string x1] (.agg #[.string x1, .string ⟨#[]⟩])) (h3 : Ret 40 #[.agg #[.string x1, .string ⟨#[]⟩], .agg #[.string uf, .string vf]] (.agg #[.string an, .string ad]))
    (h4 : Ret 42 #[.string sg, .string m] (.string y1)) (h5 : Ret 41 #[.string y1] (.agg #[.string y1, .string ⟨#[]⟩])) (h6 : Ret 40 #[.agg #[.string y1, .string ⟨#[]⟩], .agg #[.string ug, .string vg]] (.agg #[.string bn, .string bd]))
    (h7 : Ret 44 #[.agg #[.string an, .string ad], .agg #[.string an, .string ad]] (.agg #[.string cn, .string cd])) (h8 : Ret 44 #[.agg #[.string bn, .string bd], .agg #[.string bn, .string bd]] (.agg #[.string dn, .string dd])) (h9 : Ret 43 #[.agg #[.string cn, .string cd], .agg #[.string dn, .string dd]] (.agg #[.string rn, .string rd])) :
    Calls Tryz.prog 39 #[.string m, .pointer (some ⟨LB, 0, none⟩), .pointer (some ⟨FB, 0, none⟩), .pointer (some ⟨IB, 0, none⟩), .pointer (some ⟨TB, 0, none⟩)] w fun e w' => e = .returned (.agg #[.string rn, .string rd]) ∧ Below w.heap.size w w' := by
  have HN := Lib.hid hN
  clear hN
  have HSU := Lib.hid h1
  clear h1
  have HO1 := Lib.hid h2
  clear h2
  have HF1 := Lib.hid h3
  clear h3
  have HAD := Lib.hid h4
  clear h4
  have HO2 := Lib.hid h5
  clear h5
  have HF2 := Lib.hid h6
  clear h6
  have HM1 := Lib.hid h7
  clear h7
  have HM2 := Lib.hid h8
  clear h8
  have HAA := Lib.hid h9
  clear h9
  obtain ⟨W0, hW0⟩ : ∃ W0, W0 = w.alloc (.cells #[.string ⟨#[]⟩, .string ⟨#[]⟩] 36) := ⟨_, rfl⟩
  have hS : StL w W0 [(w.heap.size, ⟨#[]⟩, ⟨#[]⟩)] := by rw [hW0]; exact StL.one hG _ _
  go_enter Tryz.func39, Tryz.ntmps39
  go_upto_region 1 with fail
  rw [← hW0]
  clear hW0
  obtain ⟨fp0, _⟩ := hS.box
  obtain ⟨fx0, fy0, _, _⟩ := fp0.cells
  try go_upto_region 1 with fail
  obtain ⟨q0, q1, q2, q3, q4, q5, q6, q7, q8, q9⟩ := HN.out.next hS.below
  have XLB := World.new_ne W0 _ q0
  have XFB := World.new_ne W0 _ q1
  have XIB := World.new_ne W0 _ q2
  have XTB := World.new_ne W0 _ q3
  have XPP := World.new_ne W0 _ q4
  have XQQ := World.new_ne W0 _ q6
  have HS := Lib.hid hS
  clear hS
  have hne0 : W0.heap.size ≠ w.heap.size := World.new_ne W0 _ fx0
  have hle0_0 : w.heap.size < W0.heap.size := fp0.lt
  go_cut [7] (fun s7 wx => ∃ b0_0 : Nat, s7 = .pointer (some ⟨b0_0, 0, none⟩) ∧ StL w wx [(b0_0, an, ad), (w.heap.size, ⟨#[]⟩, ⟨#[]⟩)])
  case first =>
    go_region_held3 (fun w' => w'.cell? ⟨LB, 0, none⟩ = some (.slice (some ⟨P, 0, none⟩) n n) ∧ w'.cell? ⟨FB, 0, none⟩ = some (.int .i64 (f : Nat)) ∧ w'.cell? ⟨IB, 0, none⟩ = some (.slice (some ⟨Q, 0, none⟩) n n) ∧ w'.cell? ⟨TB, 0, none⟩ = some (.int .i64 (g : Nat)) ∧ w'.cell? ⟨P, f, none⟩ = some (.string sf) ∧ w'.cell? ⟨P, g, none⟩ = some (.string sg) ∧ w'.cell? ⟨Q, f * 2, none⟩ = some (.string uf) ∧ w'.cell? ⟨Q, f * 2 + 1, none⟩ = some (.string vf) ∧ w'.cell? ⟨Q, g * 2, none⟩ = some (.string ug) ∧ w'.cell? ⟨Q, g * 2 + 1, none⟩ = some (.string vg) ∧ w'.cell? ⟨w.heap.size, 0, none⟩ = some (.string ⟨#[]⟩) ∧ w'.cell? ⟨w.heap.size, 1, none⟩ = some (.string ⟨#[]⟩))
      (go_keep)
      (first
    | (go_at_call 35;
         (with_reducible refine Calls.mono (Ret.call HSU.out _ (by first | exact HS.out.g | exact HS.out.drew.g | exact (HS.out.drewN _).g | exact (HS.out.other _).g | exact (HS.out.drew.other _).g | exact (HS.out.other _).drew.g | exact ((HS.out.other _).other _).g | exact ((HS.out.drew.other _).other _).g | exact ((HS.out.other _).other _).drew.g | exact ((HS.out.drew.other _).drew.other _).g | exact ((HS.out.other _).drew.other _).g)) ?_);
         (rintro e X0_1 ⟨rfl, hB1⟩);
         (first
           | ((have HS2 : StL w X0_1 ([(w.heap.size, ⟨#[]⟩, ⟨#[]⟩)]) := (by first | exact HS.out.next hB1 | exact HS.out.next1 hB1 | exact HS.out.nextD hB1 | exact (HS.out.alloc _ _).next hB1 | exact (HS.out.drew.alloc _ _).next hB1 | exact (HS.out.alloc _ _).drew.next hB1 | exact (HS.out.alloc2 _ _ _ _).next hB1 | exact (HS.out.drew.alloc2 _ _ _ _).next hB1 | exact (HS.out.alloc2 _ _ _ _).drew.next hB1)); (replace HS := Lib.hid HS2); (clear HS2); (obtain ⟨fp0, _⟩ := HS.out.box); (obtain ⟨fx0, fy0, _, _⟩ := fp0.cells); (have hle0_1 : w.heap.size < X0_1.heap.size := fp0.lt))
           | ((have HS2 : StL w X0_1 ((W0.heap.size, ⟨#[]⟩, ⟨#[]⟩) :: [(w.heap.size, ⟨#[]⟩, ⟨#[]⟩)]) := (by first | exact HS.out.next hB1 | exact HS.out.next1 hB1 | exact HS.out.nextD hB1 | exact (HS.out.alloc _ _).next hB1 | exact (HS.out.drew.alloc _ _).next hB1 | exact (HS.out.alloc _ _).drew.next hB1 | exact (HS.out.alloc2 _ _ _ _).next hB1 | exact (HS.out.drew.alloc2 _ _ _ _).next hB1 | exact (HS.out.alloc2 _ _ _ _).drew.next hB1)); (replace HS := Lib.hid HS2); (clear HS2); (obtain ⟨pn0, fp0, _⟩ := HS.out.box); (obtain ⟨nx0, ny0, nz0, nw0⟩ := pn0.cells); (have hnp0 : X0_1.heap.size ≠ W0.heap.size := World.new_ne _ _ nx0); (have hnq0 : W0.heap.size < X0_1.heap.size := pn0.lt); (obtain ⟨fx0, fy0, _, _⟩ := fp0.cells); (have hle0_1 : w.heap.size < X0_1.heap.size := fp0.lt); (have hnr0_0 : W0.heap.size ≠ w.heap.size := (by omega))));
         (clear hB1);
         (obtain ⟨q0, q1, q2, q3, q4, q5, q6, q7, q8, q9⟩ := HN.out.next HS.out.below);
         (have X01LB := World.new_ne X0_1 _ q0);
         (have X01FB := World.new_ne X0_1 _ q1);
         (have X01IB := World.new_ne X0_1 _ q2);
         (have X01TB := World.new_ne X0_1 _ q3);
         (have X01PP := World.new_ne X0_1 _ q4);
         (have X01QQ := World.new_ne X0_1 _ q6);
         (have hne0 : X0_1.heap.size ≠ w.heap.size := World.new_ne X0_1 _ fx0))
    | (go_at_call 41;
         (with_reducible refine Calls.mono (Ret.call HO1.out _ (by first | exact HS.out.g | exact HS.out.drew.g | exact (HS.out.drewN _).g | exact (HS.out.other _).g | exact (HS.out.drew.other _).g | exact (HS.out.other _).drew.g | exact ((HS.out.other _).other _).g | exact ((HS.out.drew.other _).other _).g | exact ((HS.out.other _).other _).drew.g | exact ((HS.out.drew.other _).drew.other _).g | exact ((HS.out.other _).drew.other _).g)) ?_);
         (rintro e X0_2 ⟨rfl, hB1⟩);
         (first
           | ((have HS2 : StL w X0_2 ([(w.heap.size, ⟨#[]⟩, ⟨#[]⟩)]) := (by first | exact HS.out.next hB1 | exact HS.out.next1 hB1 | exact HS.out.nextD hB1 | exact (HS.out.alloc _ _).next hB1 | exact (HS.out.drew.alloc _ _).next hB1 | exact (HS.out.alloc _ _).drew.next hB1 | exact (HS.out.alloc2 _ _ _ _).next hB1 | exact (HS.out.drew.alloc2 _ _ _ _).next hB1 | exact (HS.out.alloc2 _ _ _ _).drew.next hB1)); (replace HS := Lib.hid HS2); (clear HS2); (obtain ⟨fp0, _⟩ := HS.out.box); (obtain ⟨fx0, fy0, _, _⟩ := fp0.cells); (have hle0_2 : w.heap.size < X0_2.heap.size := fp0.lt))
           | ((have HS2 : StL w X0_2 ((X0_1.heap.size, ⟨#[]⟩, ⟨#[]⟩) :: [(w.heap.size, ⟨#[]⟩, ⟨#[]⟩)]) := (by first | exact HS.out.next hB1 | exact HS.out.next1 hB1 | exact HS.out.nextD hB1 | exact (HS.out.alloc _ _).next hB1 | exact (HS.out.drew.alloc _ _).next hB1 | exact (HS.out.alloc _ _).drew.next hB1 | exact (HS.out.alloc2 _ _ _ _).next hB1 | exact (HS.out.drew.alloc2 _ _ _ _).next hB1 | exact (HS.out.alloc2 _ _ _ _).drew.next hB1)); (replace HS := Lib.hid HS2); (clear HS2); (obtain ⟨pn0, fp0, _⟩ := HS.out.box); (obtain ⟨nx0, ny0, nz0, nw0⟩ := pn0.cells); (have hnp0 : X0_2.heap.size ≠ X0_1.heap.size := World.new_ne _ _ nx0); (have hnq0 : X0_1.heap.size < X0_2.heap.size := pn0.lt); (obtain ⟨fx0, fy0, _, _⟩ := fp0.cells); (have hle0_2 : w.heap.size < X0_2.heap.size := fp0.lt); (have hnr0_0 : X0_1.heap.size ≠ w.heap.size := (by omega)))
           | ((have HS2 : StL w X0_2 ((W0.heap.size, ⟨#[]⟩, ⟨#[]⟩) :: [(w.heap.size, ⟨#[]⟩, ⟨#[]⟩)]) := (by first | exact HS.out.next hB1 | exact HS.out.next1 hB1 | exact HS.out.nextD hB1 | exact (HS.out.alloc _ _).next hB1 | exact (HS.out.drew.alloc _ _).next hB1 | exact (HS.out.alloc _ _).drew.next hB1 | exact (HS.out.alloc2 _ _ _ _).next hB1 | exact (HS.out.drew.alloc2 _ _ _ _).next hB1 | exact (HS.out.alloc2 _ _ _ _).drew.next hB1)); (replace HS := Lib.hid HS2); (clear HS2); (obtain ⟨pn0, fp0, _⟩ := HS.out.box); (obtain ⟨nx0, ny0, nz0, nw0⟩ := pn0.cells); (have hnp0 : X0_2.heap.size ≠ W0.heap.size := World.new_ne _ _ nx0); (have hnq0 : W0.heap.size < X0_2.heap.size := pn0.lt); (obtain ⟨fx0, fy0, _, _⟩ := fp0.cells); (have hle0_2 : w.heap.size < X0_2.heap.size := fp0.lt); (have hnr0_0 : W0.heap.size ≠ w.heap.size := (by omega))));
         (clear hB1);
         (obtain ⟨q0, q1, q2, q3, q4, q5, q6, q7, q8, q9⟩ := HN.out.next HS.out.below);
         (have X02LB := World.new_ne X0_2 _ q0);
         (have X02FB := World.new_ne X0_2 _ q1);
         (have X02IB := World.new_ne X0_2 _ q2);
         (have X02TB := World.new_ne X0_2 _ q3);
         (have X02PP := World.new_ne X0_2 _ q4);
         (have X02QQ := World.new_ne X0_2 _ q6);
         (have hne0 : X0_2.heap.size ≠ w.heap.size := World.new_ne X0_2 _ fx0))
    | (go_at_call 40;
         (with_reducible refine Calls.mono (Ret.call HF1.out _ (by first | exact HS.out.g | exact HS.out.drew.g | exact (HS.out.drewN _).g | exact (HS.out.other _).g | exact (HS.out.drew.other _).g | exact (HS.out.other _).drew.g | exact ((HS.out.other _).other _).g | exact ((HS.out.drew.other _).other _).g | exact ((HS.out.other _).other _).drew.g | exact ((HS.out.drew.other _).drew.other _).g | exact ((HS.out.other _).drew.other _).g)) ?_);
         (rintro e X0_3 ⟨rfl, hB1⟩);
         (first
           | ((have HS2 : StL w X0_3 ([(w.heap.size, ⟨#[]⟩, ⟨#[]⟩)]) := (by first | exact HS.out.next hB1 | exact HS.out.next1 hB1 | exact HS.out.nextD hB1 | exact (HS.out.alloc _ _).next hB1 | exact (HS.out.drew.alloc _ _).next hB1 | exact (HS.out.alloc _ _).drew.next hB1 | exact (HS.out.alloc2 _ _ _ _).next hB1 | exact (HS.out.drew.alloc2 _ _ _ _).next hB1 | exact (HS.out.alloc2 _ _ _ _).drew.next hB1)); (replace HS := Lib.hid HS2); (clear HS2); (obtain ⟨fp0, _⟩ := HS.out.box); (obtain ⟨fx0, fy0, _, _⟩ := fp0.cells); (have hle0_3 : w.heap.size < X0_3.heap.size := fp0.lt))
           | ((have HS2 : StL w X0_3 ((X0_2.heap.size, ⟨#[]⟩, ⟨#[]⟩) :: [(w.heap.size, ⟨#[]⟩, ⟨#[]⟩)]) := (by first | exact HS.out.next hB1 | exact HS.out.next1 hB1 | exact HS.out.nextD hB1 | exact (HS.out.alloc _ _).next hB1 | exact (HS.out.drew.alloc _ _).next hB1 | exact (HS.out.alloc _ _).drew.next hB1 | exact (HS.out.alloc2 _ _ _ _).next hB1 | exact (HS.out.drew.alloc2 _ _ _ _).next hB1 | exact (HS.out.alloc2 _ _ _ _).drew.next hB1)); (replace HS := Lib.hid HS2); (clear HS2); (obtain ⟨pn0, fp0, _⟩ := HS.out.box); (obtain ⟨nx0, ny0, nz0, nw0⟩ := pn0.cells); (have hnp0 : X0_3.heap.size ≠ X0_2.heap.size := World.new_ne _ _ nx0); (have hnq0 : X0_2.heap.size < X0_3.heap.size := pn0.lt); (obtain ⟨fx0, fy0, _, _⟩ := fp0.cells); (have hle0_3 : w.heap.size < X0_3.heap.size := fp0.lt); (have hnr0_0 : X0_2.heap.size ≠ w.heap.size := (by omega)))
           | ((have HS2 : StL w X0_3 ((X0_1.heap.size, ⟨#[]⟩, ⟨#[]⟩) :: [(w.heap.size, ⟨#[]⟩, ⟨#[]⟩)]) := (by first | exact HS.out.next hB1 | exact HS.out.next1 hB1 | exact HS.out.nextD hB1 | exact (HS.out.alloc _ _).next hB1 | exact (HS.out.drew.alloc _ _).next hB1 | exact (HS.out.alloc _ _).drew.next hB1 | exact (HS.out.alloc2 _ _ _ _).next hB1 | exact (HS.out.drew.alloc2 _ _ _ _).next hB1 | exact (HS.out.alloc2 _ _ _ _).drew.next hB1)); (replace HS := Lib.hid HS2); (clear HS2); (obtain ⟨pn0, fp0, _⟩ := HS.out.box); (obtain ⟨nx0, ny0, nz0, nw0⟩ := pn0.cells); (have hnp0 : X0_3.heap.size ≠ X0_1.heap.size := World.new_ne _ _ nx0); (have hnq0 : X0_1.heap.size < X0_3.heap.size := pn0.lt); (obtain ⟨fx0, fy0, _, _⟩ := fp0.cells); (have hle0_3 : w.heap.size < X0_3.heap.size := fp0.lt); (have hnr0_0 : X0_1.heap.size ≠ w.heap.size := (by omega)))
           | ((have HS2 : StL w X0_3 ((W0.heap.size, ⟨#[]⟩, ⟨#[]⟩) :: [(w.heap.size, ⟨#[]⟩, ⟨#[]⟩)]) := (by first | exact HS.out.next hB1 | exact HS.out.next1 hB1 | exact HS.out.nextD hB1 | exact (HS.out.alloc _ _).next hB1 | exact (HS.out.drew.alloc _ _).next hB1 | exact (HS.out.alloc _ _).drew.next hB1 | exact (HS.out.alloc2 _ _ _ _).next hB1 | exact (HS.out.drew.alloc2 _ _ _ _).next hB1 | exact (HS.out.alloc2 _ _ _ _).drew.next hB1)); (replace HS := Lib.hid HS2); (clear HS2); (obtain ⟨pn0, fp0, _⟩ := HS.out.box); (obtain ⟨nx0, ny0, nz0, nw0⟩ := pn0.cells); (have hnp0 : X0_3.heap.size ≠ W0.heap.size := World.new_ne _ _ nx0); (have hnq0 : W0.heap.size < X0_3.heap.size := pn0.lt); (obtain ⟨fx0, fy0, _, _⟩ := fp0.cells); (have hle0_3 : w.heap.size < X0_3.heap.size := fp0.lt); (have hnr0_0 : W0.heap.size ≠ w.heap.size := (by omega))));
         (clear hB1);
         (obtain ⟨q0, q1, q2, q3, q4, q5, q6, q7, q8, q9⟩ := HN.out.next HS.out.below);
         (have X03LB := World.new_ne X0_3 _ q0);
         (have X03FB := World.new_ne X0_3 _ q1);
         (have X03IB := World.new_ne X0_3 _ q2);
         (have X03TB := World.new_ne X0_3 _ q3);
         (have X03PP := World.new_ne X0_3 _ q4);
         (have X03QQ := World.new_ne X0_3 _ q6);
         (have hne0 : X0_3.heap.size ≠ w.heap.size := World.new_ne X0_3 _ fx0)))
    all_goals go_wp2_with fail
    all_goals go_meet
    all_goals refine ⟨_, rfl, ?_⟩
    all_goals first
      | with_reducible exact HS.out.alloc _ _
      | with_reducible exact StL.fill hG HS.out _ _
      | with_reducible exact (HS.out.alloc _ _).drew
      | with_reducible exact HS.out.drew.alloc _ _
      | with_reducible exact StL.fill hG HS.out.drew _ _
      | with_reducible exact (HS.out.drew.alloc _ _).drew
  clear XLB XFB XIB XTB XPP XQQ q0 q1 q2 q3 q4 q5 q6 q7 q8 q9 HS hne0 hle0_0
  clear fp0 fx0 fy0
  obtain ⟨b0_0, rfl, hS⟩ := hcut
  obtain ⟨w1, hw⟩ : ∃ W, W = wc := ⟨_, rfl⟩
  rw [← hw] at hS
  rw [← hw]
  clear hw
  obtain ⟨fp0, fp1, _⟩ := hS.box
  obtain ⟨fx0, fy0, _, _⟩ := fp0.cells
  obtain ⟨fx1, fy1, _, _⟩ := fp1.cells
  try go_upto_region 2 with fail
  obtain ⟨q0, q1, q2, q3, q4, q5, q6, q7, q8, q9⟩ := HN.out.next hS.below
  have XLB := World.new_ne w1 _ q0
  have XFB := World.new_ne w1 _ q1
  have XIB := World.new_ne w1 _ q2
  have XTB := World.new_ne w1 _ q3
  have XPP := World.new_ne w1 _ q4
  have XQQ := World.new_ne w1 _ q6
  have HS := Lib.hid hS
  clear hS
  have hne0 : w1.heap.size ≠ b0_0 := World.new_ne w1 _ fx0
  have hle0_0 : b0_0 < w1.heap.size := fp0.lt
  have hne1 : w1.heap.size ≠ w.heap.size := World.new_ne w1 _ fx1
  have hle1_0 : w.heap.size < w1.heap.size := fp1.lt
  go_cut [8] (fun s8 wx => ∃ b1_0 : Nat, s8 = .pointer (some ⟨b1_0, 0, none⟩) ∧ StL w wx [(b1_0, bn, bd), (b0_0, an, ad), (w.heap.size, ⟨#[]⟩, ⟨#[]⟩)])
  case first =>
    go_region_held3 (fun w' => w'.cell? ⟨LB, 0, none⟩ = some (.slice (some ⟨P, 0, none⟩) n n) ∧ w'.cell? ⟨FB, 0, none⟩ = some (.int .i64 (f : Nat)) ∧ w'.cell? ⟨IB, 0, none⟩ = some (.slice (some ⟨Q, 0, none⟩) n n) ∧ w'.cell? ⟨TB, 0, none⟩ = some (.int .i64 (g : Nat)) ∧ w'.cell? ⟨P, f, none⟩ = some (.string sf) ∧ w'.cell? ⟨P, g, none⟩ = some (.string sg) ∧ w'.cell? ⟨Q, f * 2, none⟩ = some (.string uf) ∧ w'.cell? ⟨Q, f * 2 + 1, none⟩ = some (.string vf) ∧ w'.cell? ⟨Q, g * 2, none⟩ = some (.string ug) ∧ w'.cell? ⟨Q, g * 2 + 1, none⟩ = some (.string vg) ∧ w'.cell? ⟨b0_0, 0, none⟩ = some (.string an) ∧ w'.cell? ⟨b0_0, 1, none⟩ = some (.string ad) ∧ w'.cell? ⟨w.heap.size, 0, none⟩ = some (.string ⟨#[]⟩) ∧ w'.cell? ⟨w.heap.size, 1, none⟩ = some (.string ⟨#[]⟩))
      (go_keep)
      (first
    | (go_at_call 42;
         (with_reducible refine Calls.mono (Ret.call HAD.out _ (by first | exact HS.out.g | exact HS.out.drew.g | exact (HS.out.drewN _).g | exact (HS.out.other _).g | exact (HS.out.drew.other _).g | exact (HS.out.other _).drew.g | exact ((HS.out.other _).other _).g | exact ((HS.out.drew.other _).other _).g | exact ((HS.out.other _).other _).drew.g | exact ((HS.out.drew.other _).drew.other _).g | exact ((HS.out.other _).drew.other _).g)) ?_);
         (rintro e X1_1 ⟨rfl, hB1⟩);
         (first
           | ((have HS2 : StL w X1_1 ([(b0_0, an, ad), (w.heap.size, ⟨#[]⟩, ⟨#[]⟩)]) := (by first | exact HS.out.next hB1 | exact HS.out.next1 hB1 | exact HS.out.nextD hB1 | exact (HS.out.alloc _ _).next hB1 | exact (HS.out.drew.alloc _ _).next hB1 | exact (HS.out.alloc _ _).drew.next hB1 | exact (HS.out.alloc2 _ _ _ _).next hB1 | exact (HS.out.drew.alloc2 _ _ _ _).next hB1 | exact (HS.out.alloc2 _ _ _ _).drew.next hB1)); (replace HS := Lib.hid HS2); (clear HS2); (obtain ⟨fp0, fp1, _⟩ := HS.out.box); (obtain ⟨fx0, fy0, _, _⟩ := fp0.cells); (obtain ⟨fx1, fy1, _, _⟩ := fp1.cells); (have hle0_1 : b0_0 < X1_1.heap.size := fp0.lt); (have hle1_1 : w.heap.size < X1_1.heap.size := fp1.lt))
           | ((have HS2 : StL w X1_1 ((w1.heap.size, ⟨#[]⟩, ⟨#[]⟩) :: [(b0_0, an, ad), (w.heap.size, ⟨#[]⟩, ⟨#[]⟩)]) := (by first | exact HS.out.next hB1 | exact HS.out.next1 hB1 | exact HS.out.nextD hB1 | exact (HS.out.alloc _ _).next hB1 | exact (HS.out.drew.alloc _ _).next hB1 | exact (HS.out.alloc _ _).drew.next hB1 | exact (HS.out.alloc2 _ _ _ _).next hB1 | exact (HS.out.drew.alloc2 _ _ _ _).next hB1 | exact (HS.out.alloc2 _ _ _ _).drew.next hB1)); (replace HS := Lib.hid HS2); (clear HS2); (obtain ⟨pn0, fp0, fp1, _⟩ := HS.out.box); (obtain ⟨nx0, ny0, nz0, nw0⟩ := pn0.cells); (have hnp0 : X1_1.heap.size ≠ w1.heap.size := World.new_ne _ _ nx0); (have hnq0 : w1.heap.size < X1_1.heap.size := pn0.lt); (obtain ⟨fx0, fy0, _, _⟩ := fp0.cells); (obtain ⟨fx1, fy1, _, _⟩ := fp1.cells); (have hle0_1 : b0_0 < X1_1.heap.size := fp0.lt); (have hle1_1 : w.heap.size < X1_1.heap.size := fp1.lt); (have hnr0_0 : w1.heap.size ≠ b0_0 := (by omega)); (have hnr0_1 : w1.heap.size ≠ w.heap.size := (by omega))));
         (clear hB1);
         (obtain ⟨q0, q1, q2, q3, q4, q5, q6, q7, q8, q9⟩ := HN.out.next HS.out.below);
         (have X11LB := World.new_ne X1_1 _ q0);
         (have X11FB := World.new_ne X1_1 _ q1);
         (have X11IB := World.new_ne X1_1 _ q2);
         (have X11TB := World.new_ne X1_1 _ q3);
         (have X11PP := World.new_ne X1_1 _ q4);
         (have X11QQ := World.new_ne X1_1 _ q6);
         (have hne0 : X1_1.heap.size ≠ b0_0 := World.new_ne X1_1 _ fx0);
         (have hne1 : X1_1.heap.size ≠ w.heap.size := World.new_ne X1_1 _ fx1))
    | (go_at_call 41;
         (with_reducible refine Calls.mono (Ret.call HO2.out _ (by first | exact HS.out.g | exact HS.out.drew.g | exact (HS.out.drewN _).g | exact (HS.out.other _).g | exact (HS.out.drew.other _).g | exact (HS.out.other _).drew.g | exact ((HS.out.other _).other _).g | exact ((HS.out.drew.other _).other _).g | exact ((HS.out.other _).other _).drew.g | exact ((HS.out.drew.other _).drew.other _).g | exact ((HS.out.other _).drew.other _).g)) ?_);
         (rintro e X1_2 ⟨rfl, hB1⟩);
         (first
           | ((have HS2 : StL w X1_2 ([(b0_0, an, ad), (w.heap.size, ⟨#[]⟩, ⟨#[]⟩)]) := (by first | exact HS.out.next hB1 | exact HS.out.next1 hB1 | exact HS.out.nextD hB1 | exact (HS.out.alloc _ _).next hB1 | exact (HS.out.drew.alloc _ _).next hB1 | exact (HS.out.alloc _ _).drew.next hB1 | exact (HS.out.alloc2 _ _ _ _).next hB1 | exact (HS.out.drew.alloc2 _ _ _ _).next hB1 | exact (HS.out.alloc2 _ _ _ _).drew.next hB1)); (replace HS := Lib.hid HS2); (clear HS2); (obtain ⟨fp0, fp1, _⟩ := HS.out.box); (obtain ⟨fx0, fy0, _, _⟩ := fp0.cells); (obtain ⟨fx1, fy1, _, _⟩ := fp1.cells); (have hle0_2 : b0_0 < X1_2.heap.size := fp0.lt); (have hle1_2 : w.heap.size < X1_2.heap.size := fp1.lt))
           | ((have HS2 : StL w X1_2 ((X1_1.heap.size, ⟨#[]⟩, ⟨#[]⟩) :: [(b0_0, an, ad), (w.heap.size, ⟨#[]⟩, ⟨#[]⟩)]) := (by first | exact HS.out.next hB1 | exact HS.out.next1 hB1 | exact HS.out.nextD hB1 | exact (HS.out.alloc _ _).next hB1 | exact (HS.out.drew.alloc _ _).next hB1 | exact (HS.out.alloc _ _).drew.next hB1 | exact (HS.out.alloc2 _ _ _ _).next hB1 | exact (HS.out.drew.alloc2 _ _ _ _).next hB1 | exact (HS.out.alloc2 _ _ _ _).drew.next hB1)); (replace HS := Lib.hid HS2); (clear HS2); (obtain ⟨pn0, fp0, fp1, _⟩ := HS.out.box); (obtain ⟨nx0, ny0, nz0, nw0⟩ := pn0.cells); (have hnp0 : X1_2.heap.size ≠ X1_1.heap.size := World.new_ne _ _ nx0); (have hnq0 : X1_1.heap.size < X1_2.heap.size := pn0.lt); (obtain ⟨fx0, fy0, _, _⟩ := fp0.cells); (obtain ⟨fx1, fy1, _, _⟩ := fp1.cells); (have hle0_2 : b0_0 < X1_2.heap.size := fp0.lt); (have hle1_2 : w.heap.size < X1_2.heap.size := fp1.lt); (have hnr0_0 : X1_1.heap.size ≠ b0_0 := (by omega)); (have hnr0_1 : X1_1.heap.size ≠ w.heap.size := (by omega)))
           | ((have HS2 : StL w X1_2 ((w1.heap.size, ⟨#[]⟩, ⟨#[]⟩) :: [(b0_0, an, ad), (w.heap.size, ⟨#[]⟩, ⟨#[]⟩)]) := (by first | exact HS.out.next hB1 | exact HS.out.next1 hB1 | exact HS.out.nextD hB1 | exact (HS.out.alloc _ _).next hB1 | exact (HS.out.drew.alloc _ _).next hB1 | exact (HS.out.alloc _ _).drew.next hB1 | exact (HS.out.alloc2 _ _ _ _).next hB1 | exact (HS.out.drew.alloc2 _ _ _ _).next hB1 | exact (HS.out.alloc2 _ _ _ _).drew.next hB1)); (replace HS := Lib.hid HS2); (clear HS2); (obtain ⟨pn0, fp0, fp1, _⟩ := HS.out.box); (obtain ⟨nx0, ny0, nz0, nw0⟩ := pn0.cells); (have hnp0 : X1_2.heap.size ≠ w1.heap.size := World.new_ne _ _ nx0); (have hnq0 : w1.heap.size < X1_2.heap.size := pn0.lt); (obtain ⟨fx0, fy0, _, _⟩ := fp0.cells); (obtain ⟨fx1, fy1, _, _⟩ := fp1.cells); (have hle0_2 : b0_0 < X1_2.heap.size := fp0.lt); (have hle1_2 : w.heap.size < X1_2.heap.size := fp1.lt); (have hnr0_0 : w1.heap.size ≠ b0_0 := (by omega)); (have hnr0_1 : w1.heap.size ≠ w.heap.size := (by omega))));
         (clear hB1);
         (obtain ⟨q0, q1, q2, q3, q4, q5, q6, q7, q8, q9⟩ := HN.out.next HS.out.below);
         (have X12LB := World.new_ne X1_2 _ q0);
         (have X12FB := World.new_ne X1_2 _ q1);
         (have X12IB := World.new_ne X1_2 _ q2);
         (have X12TB := World.new_ne X1_2 _ q3);
         (have X12PP := World.new_ne X1_2 _ q4);
         (have X12QQ := World.new_ne X1_2 _ q6);
         (have hne0 : X1_2.heap.size ≠ b0_0 := World.new_ne X1_2 _ fx0);
         (have hne1 : X1_2.heap.size ≠ w.heap.size := World.new_ne X1_2 _ fx1))
    | (go_at_call 40;
         (with_reducible refine Calls.mono (Ret.call HF2.out _ (by first | exact HS.out.g | exact HS.out.drew.g | exact (HS.out.drewN _).g | exact (HS.out.other _).g | exact (HS.out.drew.other _).g | exact (HS.out.other _).drew.g | exact ((HS.out.other _).other _).g | exact ((HS.out.drew.other _).other _).g | exact ((HS.out.other _).other _).drew.g | exact ((HS.out.drew.other _).drew.other _).g | exact ((HS.out.other _).drew.other _).g)) ?_);
         (rintro e X1_3 ⟨rfl, hB1⟩);
         (first
           | ((have HS2 : StL w X1_3 ([(b0_0, an, ad), (w.heap.size, ⟨#[]⟩, ⟨#[]⟩)]) := (by first | exact HS.out.next hB1 | exact HS.out.next1 hB1 | exact HS.out.nextD hB1 | exact (HS.out.alloc _ _).next hB1 | exact (HS.out.drew.alloc _ _).next hB1 | exact (HS.out.alloc _ _).drew.next hB1 | exact (HS.out.alloc2 _ _ _ _).next hB1 | exact (HS.out.drew.alloc2 _ _ _ _).next hB1 | exact (HS.out.alloc2 _ _ _ _).drew.next hB1)); (replace HS := Lib.hid HS2); (clear HS2); (obtain ⟨fp0, fp1, _⟩ := HS.out.box); (obtain ⟨fx0, fy0, _, _⟩ := fp0.cells); (obtain ⟨fx1, fy1, _, _⟩ := fp1.cells); (have hle0_3 : b0_0 < X1_3.heap.size := fp0.lt); (have hle1_3 : w.heap.size < X1_3.heap.size := fp1.lt))
           | ((have HS2 : StL w X1_3 ((X1_2.heap.size, ⟨#[]⟩, ⟨#[]⟩) :: [(b0_0, an, ad), (w.heap.size, ⟨#[]⟩, ⟨#[]⟩)]) := (by first | exact HS.out.next hB1 | exact HS.out.next1 hB1 | exact HS.out.nextD hB1 | exact (HS.out.alloc _ _).next hB1 | exact (HS.out.drew.alloc _ _).next hB1 | exact (HS.out.alloc _ _).drew.next hB1 | exact (HS.out.alloc2 _ _ _ _).next hB1 | exact (HS.out.drew.alloc2 _ _ _ _).next hB1 | exact (HS.out.alloc2 _ _ _ _).drew.next hB1)); (replace HS := Lib.hid HS2); (clear HS2); (obtain ⟨pn0, fp0, fp1, _⟩ := HS.out.box); (obtain ⟨nx0, ny0, nz0, nw0⟩ := pn0.cells); (have hnp0 : X1_3.heap.size ≠ X1_2.heap.size := World.new_ne _ _ nx0); (have hnq0 : X1_2.heap.size < X1_3.heap.size := pn0.lt); (obtain ⟨fx0, fy0, _, _⟩ := fp0.cells); (obtain ⟨fx1, fy1, _, _⟩ := fp1.cells); (have hle0_3 : b0_0 < X1_3.heap.size := fp0.lt); (have hle1_3 : w.heap.size < X1_3.heap.size := fp1.lt); (have hnr0_0 : X1_2.heap.size ≠ b0_0 := (by omega)); (have hnr0_1 : X1_2.heap.size ≠ w.heap.size := (by omega)))
           | ((have HS2 : StL w X1_3 ((X1_1.heap.size, ⟨#[]⟩, ⟨#[]⟩) :: [(b0_0, an, ad), (w.heap.size, ⟨#[]⟩, ⟨#[]⟩)]) := (by first | exact HS.out.next hB1 | exact HS.out.next1 hB1 | exact HS.out.nextD hB1 | exact (HS.out.alloc _ _).next hB1 | exact (HS.out.drew.alloc _ _).next hB1 | exact (HS.out.alloc _ _).drew.next hB1 | exact (HS.out.alloc2 _ _ _ _).next hB1 | exact (HS.out.drew.alloc2 _ _ _ _).next hB1 | exact (HS.out.alloc2 _ _ _ _).drew.next hB1)); (replace HS := Lib.hid HS2); (clear HS2); (obtain ⟨pn0, fp0, fp1, _⟩ := HS.out.box); (obtain ⟨nx0, ny0, nz0, nw0⟩ := pn0.cells); (have hnp0 : X1_3.heap.size ≠ X1_1.heap.size := World.new_ne _ _ nx0); (have hnq0 : X1_1.heap.size < X1_3.heap.size := pn0.lt); (obtain ⟨fx0, fy0, _, _⟩ := fp0.cells); (obtain ⟨fx1, fy1, _, _⟩ := fp1.cells); (have hle0_3 : b0_0 < X1_3.heap.size := fp0.lt); (have hle1_3 : w.heap.size < X1_3.heap.size := fp1.lt); (have hnr0_0 : X1_1.heap.size ≠ b0_0 := (by omega)); (have hnr0_1 : X1_1.heap.size ≠ w.heap.size := (by omega)))
           | ((have HS2 : StL w X1_3 ((w1.heap.size, ⟨#[]⟩, ⟨#[]⟩) :: [(b0_0, an, ad), (w.heap.size, ⟨#[]⟩, ⟨#[]⟩)]) := (by first | exact HS.out.next hB1 | exact HS.out.next1 hB1 | exact HS.out.nextD hB1 | exact (HS.out.alloc _ _).next hB1 | exact (HS.out.drew.alloc _ _).next hB1 | exact (HS.out.alloc _ _).drew.next hB1 | exact (HS.out.alloc2 _ _ _ _).next hB1 | exact (HS.out.drew.alloc2 _ _ _ _).next hB1 | exact (HS.out.alloc2 _ _ _ _).drew.next hB1)); (replace HS := Lib.hid HS2); (clear HS2); (obtain ⟨pn0, fp0, fp1, _⟩ := HS.out.box); (obtain ⟨nx0, ny0, nz0, nw0⟩ := pn0.cells); (have hnp0 : X1_3.heap.size ≠ w1.heap.size := World.new_ne _ _ nx0); (have hnq0 : w1.heap.size < X1_3.heap.size := pn0.lt); (obtain ⟨fx0, fy0, _, _⟩ := fp0.cells); (obtain ⟨fx1, fy1, _, _⟩ := fp1.cells); (have hle0_3 : b0_0 < X1_3.heap.size := fp0.lt); (have hle1_3 : w.heap.size < X1_3.heap.size := fp1.lt); (have hnr0_0 : w1.heap.size ≠ b0_0 := (by omega)); (have hnr0_1 : w1.heap.size ≠ w.heap.size := (by omega))));
         (clear hB1);
         (obtain ⟨q0, q1, q2, q3, q4, q5, q6, q7, q8, q9⟩ := HN.out.next HS.out.below);
         (have X13LB := World.new_ne X1_3 _ q0);
         (have X13FB := World.new_ne X1_3 _ q1);
         (have X13IB := World.new_ne X1_3 _ q2);
         (have X13TB := World.new_ne X1_3 _ q3);
         (have X13PP := World.new_ne X1_3 _ q4);
         (have X13QQ := World.new_ne X1_3 _ q6);
         (have hne0 : X1_3.heap.size ≠ b0_0 := World.new_ne X1_3 _ fx0);
         (have hne1 : X1_3.heap.size ≠ w.heap.size := World.new_ne X1_3 _ fx1)))
    all_goals go_wp2_with fail
    all_goals go_meet
    all_goals refine ⟨_, rfl, ?_⟩
    all_goals first
      | with_reducible exact HS.out.alloc _ _
      | with_reducible exact StL.fill hG HS.out _ _
      | with_reducible exact (HS.out.alloc _ _).drew
      | with_reducible exact HS.out.drew.alloc _ _
      | with_reducible exact StL.fill hG HS.out.drew _ _
      | with_reducible exact (HS.out.drew.alloc _ _).drew
  clear XLB XFB XIB XTB XPP XQQ q0 q1 q2 q3 q4 q5 q6 q7 q8 q9 HS hne0 hle0_0 hne1 hle1_0
  clear fp0 fx0 fy0 fp1 fx1 fy1
  obtain ⟨b1_0, rfl, hS⟩ := hcut
  obtain ⟨w2, hw⟩ : ∃ W, W = wc := ⟨_, rfl⟩
  rw [← hw] at hS
  rw [← hw]
  clear hw
  obtain ⟨fp0, fp1, fp2, _⟩ := hS.box
  obtain ⟨fx0, fy0, _, _⟩ := fp0.cells
  obtain ⟨fx1, fy1, _, _⟩ := fp1.cells
  obtain ⟨fx2, fy2, _, _⟩ := fp2.cells
  have r1 : w.heap.size ≠ b1_0 := fun e => (List.pairwise_cons.1 hS.nd).1 (w.heap.size, ⟨#[]⟩, ⟨#[]⟩) (by simp) e.symm
  have r0 : w.heap.size ≠ b0_0 := fun e => (List.pairwise_cons.1 (List.pairwise_cons.1 hS.nd).2).1 (w.heap.size, ⟨#[]⟩, ⟨#[]⟩) (by simp) e.symm
  try go_upto_region 3 with fail
  have HS := Lib.hid hS
  clear hS
  go_region_held3 (fun w' => w'.cell? ⟨b1_0, 0, none⟩ = some (.string bn) ∧ w'.cell? ⟨b1_0, 1, none⟩ = some (.string bd) ∧ w'.cell? ⟨b0_0, 0, none⟩ = some (.string an) ∧ w'.cell? ⟨b0_0, 1, none⟩ = some (.string ad))
    (go_keep)
    (first
    | (go_at_call 44;
         (first
           | (with_reducible refine Calls.mono (Ret.call HM1.out _ (by first | exact HS.out.g | exact HS.out.drew.g | exact (HS.out.drewN _).g)) ?_)
           | (with_reducible refine Calls.mono (Ret.call HM2.out _ (by first | exact HS.out.g | exact HS.out.drew.g | exact (HS.out.drewN _).g)) ?_));
         (rintro e WX ⟨rfl, hB1⟩);
         (have HS2 : StL w WX [(b1_0, bn, bd), (b0_0, an, ad), (w.heap.size, ⟨#[]⟩, ⟨#[]⟩)] := (by first | exact HS.out.next hB1 | exact HS.out.next1 hB1 | exact HS.out.nextD hB1));
         (replace HS := Lib.hid HS2);
         (clear hB1 HS2);
         (obtain ⟨fp0, fp1, fp2, _⟩ := HS.out.box);
         (obtain ⟨fx0, fy0, _, _⟩ := fp0.cells);
         (obtain ⟨fx1, fy1, _, _⟩ := fp1.cells);
         (obtain ⟨fx2, fy2, fz2, fw2⟩ := fp2.cells))
    | (go_at_call 43;
         (first
           | (with_reducible refine Calls.mono (Ret.call HAA.out _ (by first | exact HS.out.g | exact HS.out.drew.g | exact (HS.out.drewN _).g)) ?_));
         (rintro e WX ⟨rfl, hB1⟩);
         (have HS2 : StL w WX [(b1_0, bn, bd), (b0_0, an, ad), (w.heap.size, ⟨#[]⟩, ⟨#[]⟩)] := (by first | exact HS.out.next hB1 | exact HS.out.next1 hB1 | exact HS.out.nextD hB1));
         (replace HS := Lib.hid HS2);
         (clear hB1 HS2);
         (obtain ⟨fp0, fp1, fp2, _⟩ := HS.out.box);
         (obtain ⟨fx0, fy0, _, _⟩ := fp0.cells);
         (obtain ⟨fx1, fy1, _, _⟩ := fp1.cells);
         (obtain ⟨fx2, fy2, fz2, fw2⟩ := fp2.cells)))
  all_goals go_wp2_with fail
  all_goals obtain ⟨_, _, hpr, _⟩ := HS.out.box
  all_goals have hpp := hpr.put rn rd
  all_goals obtain ⟨k0, k1, _, _⟩ := hpp.cells
  all_goals (try simp only [Exit.inBlock, Exit.then])
  all_goals exact bodyPost_ret (v := .agg #[.string rn, .string rd]) (by simp [results, Tryz.results39, go_sem, k0, k1]) rfl ⟨rfl, by first | exact below_put HS.out.below (Nat.le_refl _) _ _ | exact below_put HS.out.drew.below (Nat.le_refl _) _ _ | exact below_put (HS.out.drewN _).below (Nat.le_refl _) _ _⟩

/-- the calls of the closure -/
structure SqRets (sf sg uf vf ug vg m rn rd : ByteArray) : Prop where
  ex : ∃ x1 y1 an ad bn bd cn cd dn dd : ByteArray, Ret 35 #[.string sf, .string m] (.string x1) ∧ Ret 41 #[.string x1] (.agg #[.string x1, .string ⟨#[]⟩]) ∧ Ret 40 #[.agg #[.string x1, .string ⟨#[]⟩], .agg #[.string uf, .string vf]] (.agg #[.string an, .string ad])
    ∧ Ret 42 #[.string sg, .string m] (.string y1) ∧ Ret 41 #[.string y1] (.agg #[.string y1, .string ⟨#[]⟩]) ∧ Ret 40 #[.agg #[.string y1, .string ⟨#[]⟩], .agg #[.string ug, .string vg]] (.agg #[.string bn, .string bd])
    ∧ Ret 44 #[.agg #[.string an, .string ad], .agg #[.string an, .string ad]] (.agg #[.string cn, .string cd]) ∧ Ret 44 #[.agg #[.string bn, .string bd], .agg #[.string bn, .string bd]] (.agg #[.string dn, .string dd]) ∧ Ret 43 #[.agg #[.string cn, .string cd], .agg #[.string dn, .string dd]] (.agg #[.string rn, .string rd])
theorem aSq (w : World) (hG : Ground w) (LB FB IB TB P Q n f g : Nat) (sf sg uf vf ug vg m rn rd : ByteArray) (hN : NearW w LB FB IB TB P Q n f g sf sg uf vf ug vg) (hf : f < n) (hg : g < n) (h : SqRets sf sg uf vf ug vg m rn rd) :
    Calls Tryz.prog 39 #[.string m, .pointer (some ⟨LB, 0, none⟩), .pointer (some ⟨FB, 0, none⟩), .pointer (some ⟨IB, 0, none⟩), .pointer (some ⟨TB, 0, none⟩)] w fun e w' => e = .returned (.agg #[.string rn, .string rd]) ∧ Below w.heap.size w w' := by
  obtain ⟨x1, y1, an, ad, bn, bd, cn, cd, dn, dd, h1, h2, h3, h4, h5, h6, h7, h8, h9⟩ := h.ex
  exact aSquares w hG LB FB IB TB P Q n f g sf sg uf vf ug vg m x1 y1 an ad bn bd cn cd dn dd rn rd hN hf hg h1 h2 h3 h4 h5 h6 h7 h8 h9
theorem val_int {k : Nat} {x : Int} (h : Cap k x) (hk : k ≤ 99997) (h1 : 1 ≤ k) : Val (cS x) ⟨#[]⟩ (x, 1) := by
  have := Val.of (k := k) (p := (x, 1)) ⟨h, Cap.one h1⟩ Int.one_pos hk
  rwa [show cD (x, (1 : Int)).2 = ⟨#[]⟩ from cD_one] at this
theorem sqs_cap {x y T : Int} {W m k c : Nat} (h0 : 0 < W) (hx : Cap 40 x) (hy : Cap 40 y) (h1 : CapP c (red (T * (m : Nat)) (W : Nat))) (h2 : CapP c (red (T * (k : Nat)) (W : Nat))) :
    CapP (40 + c + 1) (dif x T W m) ∧ CapP (40 + c + 1) (dif y T W k) ∧ CapP (40 + c + 1 + (40 + c + 1)) (mulP (dif x T W m) (dif x T W m)) ∧ CapP (40 + c + 1 + (40 + c + 1)) (mulP (dif y T W k) (dif y T W k)) ∧ CapP (40 + c + 1 + (40 + c + 1) + (40 + c + 1 + (40 + c + 1)) + 1) (sqs x y T W m k) := by
  have d1 : CapP (40 + c + 1) (dif x T W m) := CapP.sub (k := 40) (l := c) (x := (x, 1)) ⟨hx, Cap.one (by decide)⟩ h1 Int.one_pos (red_pos (by omega))
  have d2 : CapP (40 + c + 1) (dif y T W k) := CapP.sub (k := 40) (l := c) (x := (y, 1)) ⟨hy, Cap.one (by decide)⟩ h2 Int.one_pos (red_pos (by omega))
  have e1 : CapP (40 + c + 1 + (40 + c + 1)) (mulP (dif x T W m) (dif x T W m)) := CapP.mul d1 d1 (dif_pos h0) (dif_pos h0)
  have e2 : CapP (40 + c + 1 + (40 + c + 1)) (mulP (dif y T W k) (dif y T W k)) := CapP.mul d2 d2 (dif_pos h0) (dif_pos h0)
  exact ⟨d1, d2, e1, e2, CapP.add e1 e2 (mulP_pos (dif_pos h0) (dif_pos h0)) (mulP_pos (dif_pos h0) (dif_pos h0))⟩
theorem sqs_pos {x y T : Int} {W m k : Nat} (h0 : 0 < W) : 0 < (sqs x y T W m k).2 := addP_pos (mulP_pos (dif_pos h0) (dif_pos h0)) (mulP_pos (dif_pos h0) (dif_pos h0))
theorem sq_rets {a b z T : Int} {W i j c : Nat} {m : ByteArray} (h0 : 0 < W) (ha : Cap 31 a) (hb : Cap 31 b) (hz : Cap 31 z) (hm : vS m = z) (hm1 : m.size ≤ 30) (hc : c ≤ 3000) (h1 : CapP c (red (T * (i : Nat)) (W : Nat))) (h2 : CapP c (red (T * (j : Nat)) (W : Nat))) :
    SqRets (cS a) (cS b) (cS (red (T * (i : Nat)) (W : Nat)).1) (cD (red (T * (i : Nat)) (W : Nat)).2) (cS (red (T * (j : Nat)) (W : Nat)).1) (cD (red (T * (j : Nat)) (W : Nat)).2) m (cS (sqs (a - z) (b + z) T W i j).1) (cD (sqs (a - z) (b + z) T W i j).2) := by
  have hx : Cap 40 (a - z) := (Cap.sub ha hz).mono (by decide)
  have hy : Cap 40 (b + z) := (Cap.add hb hz).mono (by decide)
  obtain ⟨d1, d2, e1, e2, _⟩ := sqs_cap (T := T) h0 hx hy h1 h2
  have sa := cS_size ha
  have sb := cS_size hb
  have sx := cS_size hx
  have sy := cS_size hy
  exact ⟨⟨_, _, _, _, _, _, _, _, _, _, fun W' hW => sub_v (z := a - z) W' hW (by omega) (by omega) (vS_cS _) hm rfl, fun W' hW => fOf_v W' hW (by omega) (vS_cS _),
    fun W' hW => fSub_v (z := dif (a - z) T W i) W' hW (val_int hx (by decide) (by decide)) (Val.of h1 (red_pos (by omega)) (by omega)) rfl,
    fun W' hW => add_v (z := b + z) W' hW (by omega) (by omega) (vS_cS _) hm rfl, fun W' hW => fOf_v W' hW (by omega) (vS_cS _),
    fun W' hW => fSub_v (z := dif (b + z) T W j) W' hW (val_int hy (by decide) (by decide)) (Val.of h2 (red_pos (by omega)) (by omega)) rfl,
    fun W' hW => fMul_v W' hW (Val.of d1 (dif_pos h0) (by omega)) (Val.of d1 (dif_pos h0) (by omega)) rfl, fun W' hW => fMul_v W' hW (Val.of d2 (dif_pos h0) (by omega)) (Val.of d2 (dif_pos h0) (by omega)) rfl,
    fun W' hW => fAdd_v (z := sqs (a - z) (b + z) T W i j) W' hW (Val.of e1 (mulP_pos (dif_pos h0) (dif_pos h0)) (by omega)) (Val.of e2 (mulP_pos (dif_pos h0) (dif_pos h0)) (by omega)) rfl⟩⟩

set_option maxRecDepth 100000 in
set_option maxHeartbeats 16000000 in
theorem ane_long1 (t : ByteArray) (xa : Option Addr) (n cap : Nat) (e1 e2 : Nat) (w : World) (hG : Ground w) (ht : over t = true) :
    Calls Tryz.prog 9 #[.string t, .slice xa n cap, .int .u8 (e1 : Nat), .int .u8 (e2 : Nat)] w fun r w' => r = .returned (.bool true) ∧ Below w.heap.size w w' := by
  have HL := Lib.hid (rGreat_lit w hG [t] (by simp))
  simp only [List.length_cons, List.length_nil, Nat.zero_add, List.map_cons, List.map_nil] at HL
  rw [great1, ht] at HL
  have HG := Lib.hid hG
  have HAW := Lib.hid aawake
  clear ht hG
  go_enter Tryz.func9, Tryz.ntmps9
  go_wp2_with fail
  refine HL.out.mono ?_
  rintro _ w0 ⟨rfl, hb⟩
  go_wp2_with fail
  refine (HAW.out _ (HG.out.below hb)).mono ?_
  rintro _ _ ⟨rfl, hB⟩
  replace hb := hb.trans (hB.mono hb.size)
  clear hB
  go_wp2_with fail
  go_ret
  exact ⟨rfl, hb⟩

set_option maxRecDepth 100000 in
set_option maxHeartbeats 16000000 in
theorem ane_long2 (t : ByteArray) (xa : Option Addr) (n cap : Nat) (s : Nat → ByteArray) (e1 e2 : Nat) (w : World) (hG : Ground w) (hr : Rs w xa n s) (hmax : n ≤ 9223372036854775807) (ht : over t = false) (hl : great n s = true) :
    Calls Tryz.prog 9 #[.string t, .slice xa n cap, .int .u8 (e1 : Nat), .int .u8 (e2 : Nat)] w fun r w' => r = .returned (.bool true) ∧ Below w.heap.size w w' := by
  have HL := Lib.hid (rGreat_lit w hG [t] (by simp))
  simp only [List.length_cons, List.length_nil, Nat.zero_add, List.map_cons, List.map_nil] at HL
  rw [great1, ht] at HL
  have HG := Lib.hid hG
  have HAW := Lib.hid aawake
  have HR := Lib.hid hr
  have HGR := Lib.hid (fun W hG hr => rGreat W hG xa n cap s hr hmax)
  rw [hl] at HGR
  clear ht hG hr hmax hl
  go_enter Tryz.func9, Tryz.ntmps9
  go_wp2_with fail
  refine HL.out.mono ?_
  rintro _ w0 ⟨rfl, hb⟩
  go_wp2_with fail
  refine (HGR.out _ (HG.out.below hb) (HR.out.belowAt hb (Nat.le_refl _))).mono ?_
  rintro _ _ ⟨rfl, hB⟩
  replace hb := hb.trans (hB.mono hb.size)
  clear hB
  go_wp2_with fail
  refine (HAW.out _ (HG.out.below hb)).mono ?_
  rintro _ _ ⟨rfl, hB⟩
  replace hb := hb.trans (hB.mono hb.size)
  clear hB
  go_wp2_with fail
  go_ret
  exact ⟨rfl, hb⟩

set_option maxRecDepth 100000 in
set_option maxHeartbeats 16000000 in
theorem ane_many (t : ByteArray) (xa : Option Addr) (n cap : Nat) (s : Nat → ByteArray) (e1 e2 : Nat) (w : World) (hG : Ground w) (hr : Rs w xa n s) (hmax : n ≤ 9223372036854775807) (ht : over t = false) (hl : great n s = false) (h8 : 8 < n) :
    Calls Tryz.prog 9 #[.string t, .slice xa n cap, .int .u8 (e1 : Nat), .int .u8 (e2 : Nat)] w fun r w' => r = .returned (.bool true) ∧ Below w.heap.size w w' := by
  have HL := Lib.hid (rGreat_lit w hG [t] (by simp))
  simp only [List.length_cons, List.length_nil, Nat.zero_add, List.map_cons, List.map_nil] at HL
  rw [great1, ht] at HL
  have HG := Lib.hid hG
  have HAW := Lib.hid aawake
  have HR := Lib.hid hr
  have HGR := Lib.hid (fun W hG hr => rGreat W hG xa n cap s hr hmax)
  rw [hl] at HGR
  have hi : (8 : Int) < n := by omega
  clear ht hG hr hmax hl h8
  go_enter Tryz.func9, Tryz.ntmps9
  go_wp2_with fail
  refine HL.out.mono ?_
  rintro _ w0 ⟨rfl, hb⟩
  go_wp2_with fail
  refine (HGR.out _ (HG.out.below hb) (HR.out.belowAt hb (Nat.le_refl _))).mono ?_
  rintro _ _ ⟨rfl, hB⟩
  replace hb := hb.trans (hB.mono hb.size)
  clear hB
  go_wp2_with fail
  refine (HAW.out _ (HG.out.below hb)).mono ?_
  rintro _ _ ⟨rfl, hB⟩
  replace hb := hb.trans (hB.mono hb.size)
  clear hB
  go_wp2_with fail
  go_ret
  exact ⟨rfl, hb⟩

set_option maxRecDepth 100000 in
set_option maxHeartbeats 16000000 in
theorem ane_bad (t : ByteArray) (xa : Option Addr) (n cap : Nat) (s : Nat → ByteArray) (e1 e2 : Nat) (w : World) (hG : Ground w) (hr : Rs w xa n s) (hmax : n ≤ 9223372036854775807) (ht : over t = false) (hl : great n s = false) (h8 : n ≤ 8) (hf : FitW n t s) (h : weighE t n s ≠ 0) :
    Calls Tryz.prog 9 #[.string t, .slice xa n cap, .int .u8 (e1 : Nat), .int .u8 (e2 : Nat)] w fun r w' => r = .returned (.bool true) ∧ Below w.heap.size w w' := by
  have HL := Lib.hid (rGreat_lit w hG [t] (by simp))
  simp only [List.length_cons, List.length_nil, Nat.zero_add, List.map_cons, List.map_nil] at HL
  rw [great1, ht] at HL
  have HG := Lib.hid hG
  have HAW := Lib.hid aawake
  have HR := Lib.hid hr
  have HGR := Lib.hid (fun W hG hr => rGreat W hG xa n cap s hr hmax)
  rw [hl] at HGR
  have hi : (n : Int) ≤ 8 := by omega
  have hi2 : ¬ (8 : Int) < n := by omega
  have HS := Lib.hid (fun W hG hr => aSplit_bad W hG t xa n cap s hr hf h)
  have HI := Lib.hid (fun W hG hr => aIdeal_bad W hG t xa n cap s hr hf h)
  obtain ⟨c, hc⟩ : ∃ c, weighE t n s = c := ⟨_, rfl⟩
  rw [hc] at HS HI
  have hb1 : (c != 0) = true := by rw [bne_iff_ne, ← hc]; exact h
  unfold nilE at HS HI
  clear ht hG hr hmax hl hf h hc h8
  go_enter Tryz.func9, Tryz.ntmps9
  go_wp2_with fail
  refine HL.out.mono ?_
  rintro _ w0 ⟨rfl, hb⟩
  go_wp2_with fail
  refine (HGR.out _ (HG.out.below hb) (HR.out.belowAt hb (Nat.le_refl _))).mono ?_
  rintro _ _ ⟨rfl, hB⟩
  replace hb := hb.trans (hB.mono hb.size)
  clear hB
  go_wp2_with fail
  refine (HS.out _ (HG.out.below hb) (HR.out.belowAt hb (Nat.le_refl _))).mono ?_
  rintro _ _ ⟨rfl, hB⟩
  replace hb := hb.trans (hB.mono hb.size)
  clear hB
  go_upto_region 4 with fail
  replace hb := hb.alloc hb.size (.cells #[.slice none 0 0] 23)
  go_wp2_with fail
  refine (HI.out _ (HG.out.below hb) (HR.out.belowAt hb (Nat.le_refl _))).mono ?_
  rintro _ _ ⟨rfl, hB⟩
  replace hb := hb.trans (hB.mono hb.size)
  clear hB
  go_upto_region 5 with fail
  replace hb := hb.alloc hb.size (.cells #[.slice none 0 0] 29)
  go_wp2_with fail
  refine (HAW.out _ (HG.out.below hb)).mono ?_
  rintro _ _ ⟨rfl, hB⟩
  replace hb := hb.trans (hB.mono hb.size)
  clear hB
  go_wp2_with fail
  go_ret
  exact ⟨rfl, hb⟩

set_option maxRecDepth 100000 in
set_option maxHeartbeats 16000000 in
theorem ane_ok (t : ByteArray) (xa : Option Addr) (n cap : Nat) (s : Nat → ByteArray) (e1 e2 : Nat) (w : World) (hG : Ground w) (hr : Rs w xa n s) (hmax : n ≤ 9223372036854775807) (ht : over t = false) (hl : great n s = false) (h8 : n ≤ 8) (h0 : 0 < n) (he1 : e1 ≤ 255) (he2 : e2 ≤ 255) (a u v : Nat → ByteArray)
    (hs : ∀ W' xa cap, Ground W' → Rs W' xa n s → Calls Tryz.prog 14 #[.string t, .slice xa n cap] W' fun e w' => ∃ P, e = .returned (.tuple #[.slice (some ⟨P, 0, none⟩) n n, .int .i64 0]) ∧ (RowC w' P 22 n fun i => .string (a i)) ∧ Below W'.heap.size W' w')
    (hid : ∀ W' xa cap, Ground W' → Rs W' xa n s → Calls Tryz.prog 16 #[.string t, .slice xa n cap] W' fun e w' => ∃ P, e = .returned (.tuple #[.slice (some ⟨P, 0, none⟩) n n, .int .i64 0]) ∧ Rf w' (some ⟨P, 0, none⟩) n u v ∧ Below W'.heap.size W' w')
    (f g : Nat) (hf : e1 % n = f) (hg : e2 % n = g)
    (hsq : ∃ (r1n r1d r0n r0d : ByteArray) (c : Int), SqRets (a f) (a g) (u f) (v f) (u g) (v g) ⟨#[49]⟩ r1n r1d ∧ SqRets (a f) (a g) (u f) (v f) (u g) (v g) ⟨#[]⟩ r0n r0d ∧ Ret 45 #[.agg #[.string r1n, .string r1d], .agg #[.string r0n, .string r0d]] (.int .i64 c) ∧ (c = 0 ∨ c = 1)) :
    Calls Tryz.prog 9 #[.string t, .slice xa n cap, .int .u8 (e1 : Nat), .int .u8 (e2 : Nat)] w fun r w' => r = .returned (.bool true) ∧ Below w.heap.size w w' := by
  have HL := Lib.hid (rGreat_lit w hG [t] (by simp))
  simp only [List.length_cons, List.length_nil, Nat.zero_add, List.map_cons, List.map_nil] at HL
  rw [great1, ht] at HL
  have HG := Lib.hid hG
  have HAW := Lib.hid aawake
  have HR := Lib.hid hr
  have HGR := Lib.hid (fun W hG hr => rGreat W hG xa n cap s hr hmax)
  rw [hl] at HGR
  have hi : (n : Int) ≤ 8 := by omega
  have hi2 : ¬ (8 : Int) < n := by omega
  have HS := Lib.hid hs
  have HI := Lib.hid hid
  obtain ⟨r1n, r1d, r0n, r0d, c, q1, q0, qc, hc⟩ := hsq
  have HQ1 := Lib.hid q1
  have HQ0 := Lib.hid q0
  have HQC := Lib.hid qc
  have hfn : f < n := by rw [← hf]; exact Nat.mod_lt _ h0
  have hgn : g < n := by rw [← hg]; exact Nat.mod_lt _ h0
  have hn0 : (n : Int) ≠ 0 := by omega
  have hz1 : ((n : Int) == 0) = false := by rw [beq_eq_false_iff_ne]; omega
  have hw1 : IntKind.i64.wrap (e1 : Int) = (e1 : Int) := IntWalk.i64_in _ (by omega)
  have hw2 : IntKind.i64.wrap (e2 : Int) = (e2 : Int) := IntWalk.i64_in _ (by omega)
  have hnz : n ≠ 0 := by omega
  have hnz1 : ¬ n = 0 := by omega
  have hnz2 : (n == 0) = false := by rw [beq_eq_false_iff_ne]; omega
  have hm1 : (e1 : Int) % (n : Int) = (f : Int) := by omega
  have hm2 : (e2 : Int) % (n : Int) = (g : Int) := by omega
  have ht1 : Int.tmod (e1 : Int) (n : Int) = (f : Int) := by rw [Int.tmod_eq_emod_of_nonneg (by omega)]; exact hm1
  have ht2 : Int.tmod (e2 : Int) (n : Int) = (g : Int) := by rw [Int.tmod_eq_emod_of_nonneg (by omega)]; exact hm2
  clear ht hG hr hmax hl h8 h0 hs hid q1 q0 qc hf hg he1 he2
  go_enter Tryz.func9, Tryz.ntmps9
  go_wp2_with fail
  refine HL.out.mono ?_
  rintro _ w0 ⟨rfl, hb⟩
  go_wp2_with fail
  refine (HGR.out _ (HG.out.below hb) (HR.out.belowAt hb (Nat.le_refl _))).mono ?_
  rintro _ _ ⟨rfl, hB⟩
  replace hb := hb.trans (hB.mono hb.size)
  clear hB
  go_wp2_with fail
  refine (HS.out _ _ _ (HG.out.below hb) (HR.out.belowAt hb (Nat.le_refl _))).mono ?_
  rintro _ w1 ⟨P, rfl, hP, hB⟩
  replace hb := hb.trans (hB.mono hb.size)
  clear hB
  go_upto_region 4 with fail
  obtain ⟨LB, hLB⟩ : ∃ b, w1.heap.size = b := ⟨_, rfl⟩
  obtain ⟨W3, hW3⟩ : ∃ W3, W3 = w1.alloc (.cells #[.slice (some ⟨P, 0, none⟩) n n] 23) := ⟨_, rfl⟩
  have hL : Boxed W3 LB 23 (.slice (some ⟨P, 0, none⟩) n n) := by rw [hW3, ← hLB]; exact Boxed.new _ _ _
  have hp : RowC W3 P 22 n (fun i => .string (a i)) := by rw [hW3]; exact hP.alloc _
  replace hb : Below w.heap.size w W3 := by rw [hW3]; exact hb.alloc hb.size _
  rw [← hW3, hLB]
  clear hW3 hLB hP
  go_wp2_with fail
  refine (HI.out _ _ _ (HG.out.below hb) (HR.out.belowAt hb (Nat.le_refl _))).mono ?_
  rintro _ w4 ⟨Q, rfl, hQ, hB⟩
  replace hL : Boxed w4 LB 23 (.slice (some ⟨P, 0, none⟩) n n) := (hB.block _ hL.lt).trans hL
  replace hp := hp.below hB hp.lt
  replace hb := hb.trans (hB.mono hb.size)
  clear hB
  go_upto_region 5 with fail
  obtain ⟨IB, hIB⟩ : ∃ b, w4.heap.size = b := ⟨_, rfl⟩
  obtain ⟨W5, hW5⟩ : ∃ W5, W5 = w4.alloc (.cells #[.slice (some ⟨Q, 0, none⟩) n n] 29) := ⟨_, rfl⟩
  have hI : Boxed W5 IB 29 (.slice (some ⟨Q, 0, none⟩) n n) := by rw [hW5, ← hIB]; exact Boxed.new _ _ _
  replace hp : RowC W5 P 22 n (fun i => .string (a i)) := by rw [hW5]; exact hp.alloc _
  replace hL : Boxed W5 LB 23 (.slice (some ⟨P, 0, none⟩) n n) := by rw [hW5]; exact (Below.heap_alloc _ _ _ hL.lt).trans hL
  have hq : Rf W5 (some ⟨Q, 0, none⟩) n u v := by rw [hW5]; exact hQ.alloc _
  replace hb : Below w.heap.size w W5 := by rw [hW5]; exact hb.alloc hb.size _
  rw [← hW5, hIB]
  clear hW5 hIB hQ
  have cL := hL.cell
  have cI := hI.cell
  go_upto_region 7 with fail
  have HB5 := Lib.hid (Below.refl W5.heap.size W5)
  have neL : W5.heap.size ≠ LB := World.new_ne W5 _ cL
  go_cut [13, 14] (fun s13 s14 wx => ∃ FB TB : Nat, s13 = .pointer (some ⟨FB, 0, none⟩) ∧ s14 = .pointer (some ⟨TB, 0, none⟩) ∧ wx.cell? ⟨FB, 0, none⟩ = some (.int .i64 (f : Int)) ∧ wx.cell? ⟨TB, 0, none⟩ = some (.int .i64 (g : Int)) ∧ Below W5.heap.size W5 wx)
  case first =>
    go_region_held3 (fun w' => w'.cell? ⟨LB, 0, none⟩ = some (.slice (some ⟨P, 0, none⟩) n n))
      (go_keep)
      (fail)
    all_goals go_wp2_with fail
    all_goals go_meet
    all_goals have hBX : ∀ A B : Obj, Below W5.heap.size W5 ((W5.alloc A).alloc B) := fun A B => ((Below.refl _ W5).alloc (Nat.le_refl _) A).alloc (by rw [World.size_alloc]; omega) B
    all_goals first
      | exact ⟨_, _, rfl, rfl, cell_of_row _ _ _ _ _ _ (heap_alloc2_old W5 _ _), cell_of_row _ _ _ _ _ _ (heap_alloc2_new W5 _ _), below_drew (hBX _ _)⟩
      | exact ⟨_, _, rfl, rfl, cell_of_row _ _ _ _ _ _ (heap_alloc2_new W5 _ _), cell_of_row _ _ _ _ _ _ (heap_alloc2_old W5 _ _), below_drew (hBX _ _)⟩
      | (trace_state; sorry)
  clear HB5 neL cL cI
  obtain ⟨FB, TB, rfl, rfl, cF, cT, hB⟩ := hcut
  obtain ⟨w6, hw6⟩ : ∃ W, W = wc := ⟨_, rfl⟩
  rw [← hw6] at cF cT hB
  rw [← hw6]
  clear hw6
  have hN : NearW w6 LB FB IB TB P Q n f g (a f) (a g) (u f) (v f) (u g) (v g) := by
    obtain ⟨b1, o1, he1, _, hu1, hv1⟩ := hq.at hfn
    obtain ⟨b2, o2, he2, _, hu2, hv2⟩ := hq.at hgn
    cases he1
    cases he2
    rw [Nat.zero_add] at hu1 hv1 hu2 hv2
    have hQ5 := World.block_lt_of_cell? W5 _ hu1
    exact ⟨(hB.cell (p := ⟨LB, 0, none⟩) hL.lt).trans hL.cell, cF, (hB.cell (p := ⟨IB, 0, none⟩) hI.lt).trans hI.cell, cT, (hB.cell (p := ⟨P, f, none⟩) hp.lt).trans (hp.cell hfn), (hB.cell (p := ⟨P, g, none⟩) hp.lt).trans (hp.cell hgn),
      (hB.cell (p := ⟨Q, f * 2, none⟩) hQ5).trans hu1, (hB.cell (p := ⟨Q, f * 2 + 1, none⟩) hQ5).trans hv1, (hB.cell (p := ⟨Q, g * 2, none⟩) hQ5).trans hu2, (hB.cell (p := ⟨Q, g * 2 + 1, none⟩) hQ5).trans hv2⟩
  have HN := Lib.hid hN
  replace hb := hb.trans (hB.mono hb.size)
  clear hB hL hI hp hq hN
  by_cases hne : f = g
  · subst hne
    go_wp2_with fail
    refine (HAW.out _ (HG.out.below hb)).mono ?_
    rintro _ _ ⟨rfl, hB⟩
    replace hb := hb.trans (hB.mono hb.size)
    clear hB
    go_wp2_with fail
    go_ret
    exact ⟨rfl, hb⟩
  · have hne2 : ((f : Int) == (g : Int)) = false := by rw [beq_eq_false_iff_ne]; omega
    clear hne
    go_wp2_with fail
    clear cF cT
    refine (aSq _ (HG.out.below hb) LB FB IB TB P Q n f g _ _ _ _ _ _ _ _ _ HN.out hfn hgn HQ1.out).mono ?_
    rintro _ w7 ⟨rfl, hB⟩
    have HN7 := Lib.hid (HN.out.next hB)
    replace hb := hb.trans (hB.mono hb.size)
    clear hB HN
    go_wp2_with fail
    refine (aSq _ (HG.out.below hb) LB FB IB TB P Q n f g _ _ _ _ _ _ _ _ _ HN7.out hfn hgn HQ0.out).mono ?_
    rintro _ w8 ⟨rfl, hB⟩
    replace hb := hb.trans (hB.mono hb.size)
    clear hB HN7
    rcases hc with rfl | rfl
    · go_wp2_with fail
      refine (HQC.out _ (HG.out.below hb)).mono ?_
      rintro _ _ ⟨rfl, hB⟩
      replace hb := hb.trans (hB.mono hb.size)
      clear hB
      go_wp2_with fail
      refine (HAW.out _ (HG.out.below hb)).mono ?_
      rintro _ _ ⟨rfl, hB⟩
      replace hb := hb.trans (hB.mono hb.size)
      clear hB
      go_wp2_with fail
      go_ret
      exact ⟨rfl, hb⟩
    · go_wp2_with fail
      refine (HQC.out _ (HG.out.below hb)).mono ?_
      rintro _ _ ⟨rfl, hB⟩
      replace hb := hb.trans (hB.mono hb.size)
      clear hB
      go_wp2_with fail
      refine (HAW.out _ (HG.out.below hb)).mono ?_
      rintro _ _ ⟨rfl, hB⟩
      replace hb := hb.trans (hB.mono hb.size)
      clear hB
      go_wp2_with fail
      go_ret
      exact ⟨rfl, hb⟩

theorem cmpP_range (x y : Int × Int) : cmpP x y = -1 ∨ cmpP x y = 0 ∨ cmpP x y = 1 := by
  unfold cmpP cmp3
  split
  · exact Or.inl rfl
  · split
    · exact Or.inr (Or.inr rfl)
    · exact Or.inr (Or.inl rfl)
theorem ane_any (t : ByteArray) (xa : Option Addr) (n cap : Nat) (s : Nat → ByteArray) (b1 b2 : Int) (w : World) (hG : Ground w) (hr : Rs w xa n s) (hmax : n ≤ 9223372036854775807) (h1 : 0 ≤ b1) (h2 : b1 ≤ 255) (h3 : 0 ≤ b2) (h4 : b2 ≤ 255) :
    Calls Tryz.prog 9 #[.string t, .slice xa n cap, .int .u8 b1, .int .u8 b2] w fun r w' => r = .returned (.bool true) ∧ Below w.heap.size w w' := by
  obtain ⟨e1, rfl⟩ : ∃ e : Nat, b1 = e := ⟨b1.toNat, by omega⟩
  obtain ⟨e2, rfl⟩ : ∃ e : Nat, b2 = e := ⟨b2.toNat, by omega⟩
  cases ht : over t with
  | true => exact ane_long1 t xa n cap e1 e2 w hG ht
  | false =>
    cases hl : great n s with
    | true => exact ane_long2 t xa n cap s e1 e2 w hG hr hmax ht hl
    | false =>
      obtain ⟨hf, ht30⟩ := fitW_of ht hl
      by_cases h8 : n ≤ 8
      · by_cases h : weighE t n s = 0
        · have hgd := weighE_zero h
          have hd := hgd.data hf
          obtain ⟨c, hc1, hdiv⟩ := hd.divc
          have hn0 := hgd.pos
          have hw0 := hdiv.w0
          have hcp : ∀ i, i < n → CapP (c + c) (red (vS t * (wtN s i : Nat)) (Num.sumN (wtN s) n : Nat)) := fun i hi => CapP.of_red (by omega) (Cap.mul (show Cap c (vS t) from hdiv.capA) (show Cap c (wtN s i : Nat) by have := hdiv.wlt hi; unfold Cap; omega)) (Cap.mono (k := c) (by have := hdiv.capW; unfold Cap; omega) (by omega))
          have hca : ∀ i, i < n → Cap 31 (Num.splitP (vS t) (Num.sumN (wtN s) n) (wtN s) n i) := fun i hi => hdiv.near_cap hi (Num.split_near rfl hdiv.w0) (Cap.of ht30 rfl) (by decide)
          have hfn : e1 % n < n := Nat.mod_lt _ hn0
          have hgn : e2 % n < n := Nat.mod_lt _ hn0
          have c1 : Cap 31 1 := Cap.one (by decide)
          have c0 : Cap 31 0 := (CapP.zero (k := 31) (by decide)).1
          have hmv := sqs_move (T := vS t) (w := wtN s) hw0 hfn hgn
          have hx1 := (Cap.sub (hca _ hfn) c1).mono (l := 40) (by decide)
          have hy1 := (Cap.add (hca _ hgn) c1).mono (l := 40) (by decide)
          have hx0 := (Cap.sub (hca _ hfn) c0).mono (l := 40) (by decide)
          have hy0 := (Cap.add (hca _ hgn) c0).mono (l := 40) (by decide)
          obtain ⟨_, _, _, _, k1⟩ := sqs_cap (T := vS t) hw0 hx1 hy1 (hcp _ hfn) (hcp _ hgn)
          obtain ⟨_, _, _, _, k0⟩ := sqs_cap (T := vS t) hw0 hx0 hy0 (hcp _ hfn) (hcp _ hgn)
          exact ane_ok t xa n cap s e1 e2 w hG hr hmax ht hl h8 hn0 (by omega) (by omega) (fun i => cS (Num.splitP (vS t) (Num.sumN (wtN s) n) (wtN s) n i)) (idN (vS t) (Num.sumN (wtN s) n) (wtN s)) (idD (vS t) (Num.sumN (wtN s) n) (wtN s))
            (fun W' xa cap hG hr => aSplit_ok W' hG t xa n cap s hr hf h) (fun W' xa cap hG hr => aIdeal_ok W' hG t xa n cap s hr hf h) _ _ rfl rfl
            ⟨_, _, _, _, _, sq_rets (z := 1) hw0 (hca _ hfn) (hca _ hgn) c1 vS_one (by decide) (by omega) (hcp _ hfn) (hcp _ hgn), sq_rets (z := 0) hw0 (hca _ hfn) (hca _ hgn) c0 vS_nil (by decide) (by omega) (hcp _ hfn) (hcp _ hgn),
              fun W' hW => fCompare_v W' hW (Val.of k1 (sqs_pos hw0) (by omega)) (Val.of k0 (sqs_pos hw0) (by omega)) rfl, by
                rcases cmpP_range (sqs (Num.splitP (vS t) (Num.sumN (wtN s) n) (wtN s) n (e1 % n) - 1) (Num.splitP (vS t) (Num.sumN (wtN s) n) (wtN s) n (e2 % n) + 1) (vS t) (Num.sumN (wtN s) n) (wtN s (e1 % n)) (wtN s (e2 % n))) (sqs (Num.splitP (vS t) (Num.sumN (wtN s) n) (wtN s) n (e1 % n) - 0) (Num.splitP (vS t) (Num.sumN (wtN s) n) (wtN s) n (e2 % n) + 0) (vS t) (Num.sumN (wtN s) n) (wtN s (e1 % n)) (wtN s (e2 % n))) with e | e | e
                · omega
                · exact Or.inl e
                · exact Or.inr e⟩
        · exact ane_bad t xa n cap s e1 e2 w hG hr hmax ht hl h8 hf h
      · exact ane_many t xa n cap s e1 e2 w hG hr hmax ht hl (by omega)

end Go.Proofs.YthhihdihkddakaaGreatDoor
