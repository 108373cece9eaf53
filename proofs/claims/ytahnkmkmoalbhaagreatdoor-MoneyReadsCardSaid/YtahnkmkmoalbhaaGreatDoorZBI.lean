/- What the walks of the laws of layer 2 carry along: the boxes of fractions. -/
import Derived.Test.YtahnkmkmoalbhaaGreatDoorZBA
import Derived.Test.YtahnkmkmoalbhaaGreatDoorZBD
import Derived.Test.YtahnkmkmoalbhaaGreatDoorZBF
import Derived.Test.YtahnkmkmoalbhaaGreatDoorZBG
import Derived.Test.YtahnkmkmoalbhaaGreatDoorZBH
import Derived.Lib.Bytealg
import Derived.Lib.CutLaws
import Derived.Lib.Strings
import Derived.Lib.TrimByte
namespace Go.Proofs.YtahnkmkmoalbhaaGreatDoor
open Go.RowKit Fra

/-- fractions lie in these blocks -/
def Boxes (W : World) : List (Nat × ByteArray × ByteArray) → Prop
  | [] => True
  | x :: r => PairAt W x.1 59 x.2.1 x.2.2 ∧ Boxes W r
theorem Boxes.below {W W' : World} (hb : Below W.heap.size W W') : ∀ {L : List (Nat × ByteArray × ByteArray)}, Boxes W L → Boxes W' L
  | [], _ => trivial
  | _ :: _, h => ⟨h.1.below hb, Boxes.below hb h.2⟩
theorem Boxes.drewN {W : World} (q : Nat) : ∀ {L : List (Nat × ByteArray × ByteArray)}, Boxes W L → Boxes (W.drewN q) L
  | [], _ => trivial
  | _ :: _, h => ⟨h.1, Boxes.drewN q h.2⟩
structure StL (w W : World) (L : List (Nat × ByteArray × ByteArray)) : Prop where
  g : Ground W
  below : Below w.heap.size w W
  box : Boxes W L
  nd : L.Pairwise fun x y => x.1 ≠ y.1
  lo : ∀ x ∈ L, w.heap.size ≤ x.1
variable {w W W1 : World} {L : List (Nat × ByteArray × ByteArray)}
theorem Boxes.lt : ∀ {L : List (Nat × ByteArray × ByteArray)}, Boxes W L → ∀ x ∈ L, x.1 < W.heap.size
  | [], _, _, h => by simp at h
  | y :: r, hb, x, h => by
    rcases List.mem_cons.1 h with e | e
    · subst e; exact hb.1.lt
    · exact Boxes.lt hb.2 x e
theorem StL.next (h : StL w W L) (hb : Below W.heap.size W W1) : StL w W1 L := ⟨h.g.below hb, h.below.trans (hb.mono h.below.size), h.box.below hb, h.nd, h.lo⟩
theorem StL.drewN (h : StL w W L) (q : Nat) : StL w (W.drewN q) L := ⟨⟨h.g.tab, h.g.max⟩, below_drewN h.below q, h.box.drewN q, h.nd, h.lo⟩
theorem StL.drew (h : StL w W L) : StL w W.drew L := h.drewN 1
theorem StL.next1 (h : StL w W L) (hb : Below W.drew.heap.size W.drew W1) : StL w W1 L := h.drew.next hb
theorem StL.nextD {q : Nat} (h : StL w W L) (hb : Below (W.drewN q).heap.size (W.drewN q) W1) : StL w W1 L := (h.drewN q).next hb
theorem StL.other (h : StL w W L) (o : Obj) : StL w (W.alloc o) L := h.next ((Below.refl _ _).alloc (Nat.le_refl _) _)
theorem StL.alloc (h : StL w W L) (u v : ByteArray) : StL w (W.alloc (.cells #[.string u, .string v] 59)) ((W.heap.size, u, v) :: L) :=
  ⟨(h.other _).g, (h.other _).below, ⟨PairAt.made W _ u v, (h.other _).box⟩, List.pairwise_cons.2 ⟨fun x hx => by have := h.box.lt x hx; show W.heap.size ≠ x.1; omega, h.nd⟩, fun x hx => by
    rcases List.mem_cons.1 hx with e | e
    · subst e; exact h.below.size
    · exact h.lo x e⟩
theorem Boxes.setOther {a : Addr} {u : Value} : ∀ {L : List (Nat × ByteArray × ByteArray)}, (∀ x ∈ L, x.1 ≠ a.block) → Boxes W L → Boxes (W.setCell a u) L
  | [], _, _ => trivial
  | x :: r, hn, h => ⟨h.1.setOther (hn x (by simp)) u, Boxes.setOther (fun y hy => hn y (by simp [hy])) h.2⟩
theorem StL.fill (hG : Ground w) {b : Nat} {x y : ByteArray} (h : StL w W ((b, x, y) :: L)) (u v : ByteArray) : StL w ((W.setCell ⟨b, 0, none⟩ (.string u)).setCell ⟨b, 1, none⟩ (.string v)) ((b, u, v) :: L) := by
  have hlo : w.heap.size ≤ b := h.lo (b, x, y) (by simp)
  have hne := (List.pairwise_cons.1 h.nd).1
  have hb := below_put h.below hlo (.string u) (.string v)
  refine ⟨hG.below hb, hb, ⟨h.box.1.put u v, ?_⟩, List.pairwise_cons.2 ⟨hne, (List.pairwise_cons.1 h.nd).2⟩, fun z hz => ?_⟩
  · exact Boxes.setOther (fun z hz => (hne z hz).symm) (Boxes.setOther (fun z hz => (hne z hz).symm) h.box.2)
  · rcases List.mem_cons.1 hz with e | e
    · subst e; exact hlo
    · exact h.lo z (by simp [e])
theorem StL.swap {x y : Nat × ByteArray × ByteArray} (h : StL w W (x :: y :: L)) : StL w W (y :: x :: L) := by
  have h1 := List.pairwise_cons.1 h.nd
  have h2 := List.pairwise_cons.1 h1.2
  refine ⟨h.g, h.below, ⟨h.box.2.1, h.box.1, h.box.2.2⟩, List.pairwise_cons.2 ⟨fun z hz => ?_, List.pairwise_cons.2 ⟨fun z hz => h1.1 z (by simp [hz]), h2.2⟩⟩, fun z hz => h.lo z (by
    simp at hz ⊢
    rcases hz with e | e | e
    · exact .inr (.inl e)
    · exact .inl e
    · exact .inr (.inr e))⟩
  rcases List.mem_cons.1 hz with e | e
  · subst e; exact (h1.1 y (by simp)).symm
  · exact h2.1 z e
theorem StL.zero (hG : Ground w) : StL w w [] := ⟨hG, Below.refl _ _, trivial, .nil, fun _ h => by simp at h⟩
theorem StL.one (hG : Ground w) (a b : ByteArray) : StL w (w.alloc (.cells #[.string a, .string b] 59)) [(w.heap.size, a, b)] := (StL.zero hG).alloc a b
theorem StL.two (hG : Ground w) (a b c d : ByteArray) : StL w ((w.alloc (.cells #[.string a, .string b] 59)).alloc (.cells #[.string c, .string d] 59)) [(w.heap.size + 1, c, d), (w.heap.size, a, b)] := by
  have := (StL.one hG a b).alloc c d
  simpa using this
theorem StL.three (hG : Ground w) (a b c d e f : ByteArray) : StL w (((w.alloc (.cells #[.string a, .string b] 59)).alloc (.cells #[.string c, .string d] 59)).alloc (.cells #[.string e, .string f] 59)) [(w.heap.size + 1 + 1, e, f), (w.heap.size + 1, c, d), (w.heap.size, a, b)] := by
  have := (StL.two hG a b c d).alloc e f
  simpa using this
theorem frac_guards (x y : Operand) (a b c d : ByteArray) (W : World) : (eqGuard .eql 59 x y (.agg #[.string a, .string b]) (.agg #[.string c, .string d])).run Tryz.prog W = .ok () W := frac_guard _ _ _ _ _ _ _ _
end Go.Proofs.YtahnkmkmoalbhaaGreatDoor

/- The reference implementation of layer 2: one, zero, exact, Raw, reduced, Canonical: the walks. -/
namespace Go.Proofs.YtahnkmkmoalbhaaGreatDoor
open Go.RowKit Fra

theorem qOne (w : World) : Calls Tryz.prog 132 #[] w fun e w' => e = .returned (.string ⟨#[49]⟩) ∧ w = w' := by
  go_enter Tryz.func132, Tryz.ntmps132
  go_wp2_with fail
  refine (rOf_any 1 w (by decide) (by decide)).mono ?_
  rintro _ _ ⟨rfl, rfl⟩
  rw [cS_one]
  go_wp2_with fail
  go_ret
  exact ⟨rfl, rfl⟩

theorem qZero {s : ByteArray} {x : Int} (w : World) (hs : s.size ≤ 4294967296) (hx : vS s = x) :
    Calls Tryz.prog 157 #[.string s] w fun e w' => e = .returned (.bool (decide (x = 0))) ∧ w = w' := by
  by_cases h0 : x = 0
  · have HC := Lib.hid (show cmp3 (vS s) (vS ⟨#[]⟩) = 0 by rw [vS_nil, hx, h0]; rfl)
    have HD := Lib.hid (decide_eq_true h0)
    clear h0 hx
    go_enter Tryz.func157, Tryz.ntmps157
    go_wp2_with fail
    refine (rCompare_any s ⟨#[]⟩ w hs (by decide)).mono ?_
    rintro _ _ ⟨rfl, rfl⟩
    rw [HC.out]
    go_wp2_with fail
    go_ret
    exact ⟨by rw [HD.out]; rfl, rfl⟩
  · obtain ⟨c, hc⟩ : ∃ c, cmp3 (vS s) (vS ⟨#[]⟩) = c := ⟨_, rfl⟩
    have hcc : (c == 0) = false := by
      have : c ≠ 0 := by rw [← hc, vS_nil, hx]; intro e; exact h0 ((cmp3_zero _ _).1 e)
      simpa using this
    have HC := Lib.hid hc
    have HD := Lib.hid (decide_eq_false h0)
    clear h0 hx hc
    go_enter Tryz.func157, Tryz.ntmps157
    go_wp2_with fail
    refine (rCompare_any s ⟨#[]⟩ w hs (by decide)).mono ?_
    rintro _ _ ⟨rfl, rfl⟩
    rw [HC.out]
    go_wp2_with fail
    go_ret
    exact ⟨by rw [HD.out]; rfl, rfl⟩

theorem qExact {a b : ByteArray} {x y z : Int} (w : World) (ha : a.size ≤ 1000) (hb : b.size ≤ 1000) (hx : vS a = x) (hy : vS b = y) (h0 : y ≠ 0) (hz : Int.fdiv x y = z) :
    Calls Tryz.prog 159 #[.string a, .string b] w (StrPost w z) := by
  have hd := rDiv_any a b w ha hb (by rw [hy]; exact h0)
  rw [hx, hy] at hd
  have HD := Lib.hid hd
  have HZ := Lib.hid hz
  clear hd hz hx hy
  go_enter Tryz.func159, Tryz.ntmps159
  go_wp2_with fail
  refine HD.out.mono ?_
  rintro _ w1 ⟨rfl, hB⟩
  rw [HZ.out]
  go_wp2_with fail
  go_ret
  exact ⟨rfl, hB⟩

/-- returns two strings with these values, as two results -/
def PairPost (w : World) (p : Int × Int) (k : Nat) (e : Ending) (w' : World) : Prop :=
  ∃ a b, e = .returned (.tuple #[.string a, .string b]) ∧ vS a = p.1 ∧ vS b = p.2 ∧ a.size ≤ k ∧ b.size ≤ k ∧ Below w.heap.size w w'

set_option maxRecDepth 100000 in
set_option maxHeartbeats 2000000 in
theorem qRaw (n d : ByteArray) (w : World) (k : Nat) (hG : Ground w) (hn : n.size + 1 ≤ k) (hd : d.size + 1 ≤ k) (hk : k ≤ 4294967295) :
    Calls Tryz.prog 128 #[.agg #[.string n, .string d]] w (PairPost w (raw n d) k) := by
  obtain ⟨W0, hW0⟩ : ∃ W0, W0 = w.alloc (.cells #[.string n, .string d] 59) := ⟨_, rfl⟩
  have hS : StX w W0 59 n d := by rw [hW0]; exact StX.made hG _ _ _
  obtain ⟨c0, c1, _, _⟩ := hS.x.cells
  by_cases h0 : vS d = 0
  · have HR := Lib.hid (show raw n d = (vS n, 1) by unfold raw; rw [h0]; rfl)
    have HD := Lib.hid h0
    clear h0
    go_enter Tryz.func128, Tryz.ntmps128
    go_wp2_with fail
    rw [← hW0]
    clear hW0
    refine (qZero (x := 0) W0 (by omega) HD.out).mono ?_
    rintro _ _ ⟨rfl, rfl⟩
    go_wp2_with fail
    go_region_held3 (fun w' => w'.cell? ⟨w.heap.size, 0, none⟩ = some (.string n) ∧ w'.cell? ⟨w.heap.size, 1, none⟩ = some (.string d))
      (go_keep)
      ((go_at_call 132; (with_reducible refine Calls.mono (qOne _) ?_); (rintro _ _ ⟨rfl, rfl⟩)))
    all_goals go_wp2_with fail
    all_goals go_ret2
    all_goals exact ⟨n, ⟨#[49]⟩, rfl, by rw [HR.out], by rw [HR.out]; exact vS_one, by omega, by show 1 ≤ k; omega, by first | exact hS.below | exact hS.drew.below | exact (hS.drewN _).below⟩
  · by_cases hl : vS d < 0
    · obtain ⟨e, he⟩ : ∃ e, e = cS (-vS n) := ⟨_, rfl⟩
      obtain ⟨g, hg⟩ : ∃ g, g = cS (-vS d) := ⟨_, rfl⟩
      have s1 : e.size ≤ k := by rw [he]; have := cS_size (z := -vS n) (k := n.size) (by rw [Int.natAbs_neg]; exact vS_lt n); omega
      have s2 : g.size ≤ k := by rw [hg]; have := cS_size (z := -vS d) (k := d.size) (by rw [Int.natAbs_neg]; exact vS_lt d); omega
      have HF := Lib.hid (show vS e = -vS n ∧ vS g = -vS d by rw [he, hg, vS_cS, vS_cS]; exact ⟨rfl, rfl⟩)
      have HE := Lib.hid he
      have HH := Lib.hid hg
      have HC := Lib.hid (show cmp3 (vS d) (vS ⟨#[]⟩) = -1 by rw [vS_nil]; exact cmp3_lt hl)
      have HR := Lib.hid (rawP_of_neg (n := vS n) hl)
      have HZ := Lib.hid (decide_eq_false h0)
      clear he hg h0 hl
      go_enter Tryz.func128, Tryz.ntmps128
      go_wp2_with fail
      rw [← hW0]
      clear hW0
      refine (qZero (x := vS d) W0 (by omega) rfl).mono ?_
      rintro _ _ ⟨rfl, rfl⟩
      rw [HZ.out]
      go_wp2_with fail
      refine (rCompare_any d ⟨#[]⟩ W0 (by omega) (by decide)).mono ?_
      rintro _ _ ⟨rfl, rfl⟩
      rw [HC.out]
      go_wp2_with fail
      go_region_held3 (fun w' => w'.cell? ⟨w.heap.size, 0, none⟩ = some (.string n) ∧ w'.cell? ⟨w.heap.size, 1, none⟩ = some (.string d))
        (go_keep)
        ((go_at_call 58;
          (first
            | ((with_reducible refine Calls.mono (rNeg_any n _ (by omega)) ?_); (rintro _ _ ⟨rfl, rfl⟩); (rw [← HE.out]))
            | ((with_reducible refine Calls.mono (rNeg_any d _ (by omega)) ?_); (rintro _ _ ⟨rfl, rfl⟩); (rw [← HH.out])))))
      all_goals go_wp2_with fail
      all_goals go_ret2
      all_goals exact ⟨e, g, rfl, by show _ = (rawP (vS n) (vS d)).1; rw [HR.out]; exact HF.out.1, by show _ = (rawP (vS n) (vS d)).2; rw [HR.out]; exact HF.out.2, s1, s2, by first | exact hS.below | exact hS.drew.below | exact (hS.drewN _).below⟩
    · have HC := Lib.hid (show cmp3 (vS d) (vS ⟨#[]⟩) = 1 by rw [vS_nil]; exact cmp3_gt (by omega))
      have HR := Lib.hid (rawP_of_pos (n := vS n) (show (0 : Int) < vS d by omega))
      have HZ := Lib.hid (decide_eq_false h0)
      clear hl h0
      go_enter Tryz.func128, Tryz.ntmps128
      go_wp2_with fail
      rw [← hW0]
      clear hW0
      refine (qZero (x := vS d) W0 (by omega) rfl).mono ?_
      rintro _ _ ⟨rfl, rfl⟩
      rw [HZ.out]
      go_wp2_with fail
      refine (rCompare_any d ⟨#[]⟩ W0 (by omega) (by decide)).mono ?_
      rintro _ _ ⟨rfl, rfl⟩
      rw [HC.out]
      go_wp2_with fail
      go_region
      all_goals go_wp2_with fail
      all_goals go_ret2
      all_goals exact ⟨n, d, rfl, by show _ = (rawP (vS n) (vS d)).1; rw [HR.out], by show _ = (rawP (vS n) (vS d)).2; rw [HR.out], by omega, by omega, by first | exact hS.below | exact hS.drew.below | exact (hS.drewN _).below⟩

end Go.Proofs.YtahnkmkmoalbhaaGreatDoor

/- The reference implementation of layer 2: reduced, Canonical, Check, New, Of, Parts: the walks. -/
namespace Go.Proofs.YtahnkmkmoalbhaaGreatDoor
open Go.RowKit Fra

theorem red_nil {y : Int} (h : 0 < y) : cS (red 0 y).1 = ⟨#[]⟩ ∧ cD (red 0 y).2 = ⟨#[]⟩ := by rw [red_zero h]; exact ⟨cS_zero, cD_one⟩

set_option maxRecDepth 100000 in
set_option maxHeartbeats 2000000 in
theorem qReduced {n d : ByteArray} {x y : Int} (w : World) (hn : n.size ≤ 900) (hd : d.size ≤ 900) (hx : vS n = x) (hy : vS d = y) (h0 : 0 < y) :
    Calls Tryz.prog 130 #[.string n, .string d] w (FPost w (red x y)) := by
  obtain ⟨W0, hW0⟩ : ∃ W0, W0 = w.alloc (.cells #[.string ⟨#[]⟩, .string ⟨#[]⟩] 59) := ⟨_, rfl⟩
  have hB0 : Below w.heap.size w W0 := by rw [hW0]; exact (Below.refl _ _).alloc (Nat.le_refl _) _
  have hP : PairAt W0 w.heap.size 59 ⟨#[]⟩ ⟨#[]⟩ := by rw [hW0]; exact PairAt.made _ _ _ _
  by_cases hz : x = 0
  · have HX := Lib.hid hx
    have HZ := Lib.hid (decide_eq_true hz)
    have HN := Lib.hid (show cS (red x y).1 = ⟨#[]⟩ ∧ cD (red x y).2 = ⟨#[]⟩ by rw [hz]; exact red_nil h0)
    clear hz hx hy h0
    obtain ⟨c0, c1, c2, c3⟩ := hP.cells
    go_enter Tryz.func130, Tryz.ntmps130
    go_wp2_with fail
    rw [← hW0]
    clear hW0
    refine (qZero (x := x) W0 (by omega) HX.out).mono ?_
    rintro _ _ ⟨rfl, rfl⟩
    rw [HZ.out]
    go_wp2_with fail
    obtain ⟨k0, k1, _, _⟩ := (hP.put ⟨#[]⟩ ⟨#[]⟩).cells
    exact bodyPost_ret (v := .agg #[.string ⟨#[]⟩, .string ⟨#[]⟩]) (by simp [results, Tryz.results130, go_sem, k0, k1]) rfl ⟨by rw [HN.out.1, HN.out.2], below_put hB0 (Nat.le_refl _) _ _⟩
  · have hg := gcd_pos (n := x) h0
    have hgs : (cS (Int.gcd x y : Int)).size ≤ 1000 := by
      have h1 : Int.gcd x y ≤ y.natAbs := Int.gcd_le_natAbs_right x (by omega)
      have h2 := vS_lt d
      rw [hy] at h2
      have := cS_size (z := (Int.gcd x y : Int)) (k := d.size) (by omega)
      omega
    have HX := Lib.hid hx
    have HY := Lib.hid hy
    have HZ := Lib.hid (decide_eq_false hz)
    have HG := Lib.hid hg
    have HS := Lib.hid hgs
    have hcz := CapP.of_red (k := 900) h0 (Cap.of hn hx) (Cap.of hd hy)
    have HQS := Lib.hid (show (cS (red x y).2).size ≤ 901 by have := cS_size hcz.2; omega)
    have HQ1 := Lib.hid (show Int.fdiv x (Int.gcd x y : Int) = (red x y).1 from ediv_fdiv hg)
    have HQ2 := Lib.hid (show Int.fdiv y (Int.gcd x y : Int) = (red x y).2 from ediv_fdiv hg)
    have hrd : ∀ c, cmp3 (red x y).2 1 = c → (c == 0) = decide ((red x y).2 = 1) := by
      intro c hc
      subst hc
      by_cases h1 : (red x y).2 = 1
      · rw [h1]; rfl
      · rw [decide_eq_false h1]
        have : cmp3 (red x y).2 1 ≠ 0 := fun e => h1 ((cmp3_zero _ _).1 e)
        simpa using this
    have HRD := Lib.hid hrd
    clear hz hx hy hg hgs hcz hrd h0
    go_enter Tryz.func130, Tryz.ntmps130
    go_wp2_with fail
    rw [← hW0]
    clear hW0
    refine (qZero (x := x) W0 (by omega) HX.out).mono ?_
    rintro _ _ ⟨rfl, rfl⟩
    rw [HZ.out]
    go_wp2_with fail
    refine (show Calls _ _ _ W0 (StrPost W0 (Int.gcd x y : Int)) from by have := rGcd_any n d W0 hn hd; rwa [HX.out, HY.out] at this).mono ?_
    rintro _ w1 ⟨rfl, hB⟩
    have hP1 := hP.below hB
    have hB1 := hB0.trans (hB.mono hB0.size)
    clear hB hB0 hP
    go_wp2_with fail
    refine (qExact w1 (by omega) HS.out HX.out (vS_cS _) (by have := HG.out; omega) HQ1.out).mono ?_
    rintro _ w2 ⟨rfl, hB⟩
    have hP2 := hP1.below hB
    have hB2 := hB1.trans (hB.mono hB1.size)
    clear hB hB1 hP1
    go_wp2_with fail
    refine (qExact w2 (by omega) HS.out HY.out (vS_cS _) (by have := HG.out; omega) HQ2.out).mono ?_
    rintro _ w3 ⟨rfl, hB⟩
    have hP3 := hP2.below hB
    have hB3 := hB2.trans (hB.mono hB2.size)
    clear hB hB2 hP2
    go_upto_region 5 with fail
    obtain ⟨B, hBe⟩ : ∃ B, B = w3.heap.size := ⟨_, rfl⟩
    obtain ⟨u, hu⟩ : ∃ u, u = cS (red x y).1 := ⟨_, rfl⟩
    obtain ⟨v, hv⟩ : ∃ v, v = cS (red x y).2 := ⟨_, rfl⟩
    rw [← hu, ← hv]
    obtain ⟨W4, hW4⟩ : ∃ W4, W4 = w3.alloc (.cells #[.string u, .string v] 59) := ⟨_, rfl⟩
    have hX : PairAt W4 B 59 u v := by rw [hW4, hBe]; exact PairAt.made _ _ _ _
    have hP4 : PairAt W4 w.heap.size 59 ⟨#[]⟩ ⟨#[]⟩ := by rw [hW4]; exact hP3.alloc _
    have hB4 : Below w.heap.size w W4 := by rw [hW4]; exact hB3.alloc hB3.size _
    have hne : w.heap.size < B := by rw [hBe]; exact hP3.lt
    rw [← hBe, ← hW4]
    clear hW4 hBe hP3 hB3
    have hne1 : B ≠ w.heap.size := by omega
    obtain ⟨c0, c1, c2, c3⟩ := hX.cells
    obtain ⟨d0, d1, d2, d3⟩ := hP4.cells
    rw [← hv] at HQS
    have HV := Lib.hid (show vS v = (red x y).2 by rw [hv, vS_cS])
    have HU := Lib.hid hu
    have HVV := Lib.hid hv
    clear hu hv
    obtain ⟨c, hc⟩ : ∃ c, cmp3 (red x y).2 1 = c := ⟨_, rfl⟩
    have HC := Lib.hid (show cmp3 (vS v) (vS ⟨#[49]⟩) = c by rw [HV.out, vS_one]; exact hc)
    have hcc := HRD.out c hc
    have hsv : v.size ≤ 4294967296 := Nat.le_trans HQS.out (by decide)
    clear hc
    by_cases h1 : (red x y).2 = 1
    · rw [decide_eq_true h1] at hcc
      have HD := Lib.hid (show cD (red x y).2 = ⟨#[]⟩ by rw [h1, cD_one])
      clear h1
      go_region_held3 (fun w' => w'.cell? ⟨B, 0, none⟩ = some (.string u) ∧ w'.cell? ⟨B, 1, none⟩ = some (.string v))
        (go_keep)
        (first
          | (go_at_call 132; (with_reducible refine Calls.mono (qOne _) ?_); (rintro _ _ ⟨rfl, rfl⟩))
          | (go_at_call 97; (with_reducible refine Calls.mono (rCompare_any v ⟨#[49]⟩ _ hsv (by decide)) ?_); (rintro _ _ ⟨rfl, rfl⟩); (rw [HC.out])))
      all_goals obtain ⟨W5, hW5⟩ : ∃ W5, W5 = W4.drew := ⟨_, rfl⟩
      all_goals have hX5 : PairAt W5 B 59 u v := by rw [hW5]; exact hX
      all_goals have hP5 : PairAt W5 w.heap.size 59 ⟨#[]⟩ ⟨#[]⟩ := by rw [hW5]; exact hP4
      all_goals have hB5 : Below w.heap.size w W5 := by rw [hW5]; exact below_drewN hB4 1
      all_goals rw [← hW5]
      all_goals clear hW5
      all_goals obtain ⟨e0, e1, e2, e3⟩ := hX5.cells
      all_goals obtain ⟨f0, f1, f2, f3⟩ := hP5.cells
      all_goals obtain ⟨g0, g1, g2, g3⟩ := (hX5.set1 ⟨#[]⟩).cells
      all_goals have hP6 := hP5.setOther (a := ⟨B, 1, none⟩) (show w.heap.size ≠ B by omega) (.string ⟨#[]⟩)
      all_goals obtain ⟨i0, i1, i2, i3⟩ := hP6.cells
      all_goals go_wp2_with fail
      all_goals obtain ⟨k0, k1, _, _⟩ := (hP6.put u ⟨#[]⟩).cells
      all_goals exact bodyPost_ret (v := .agg #[.string u, .string ⟨#[]⟩]) (by simp [results, Tryz.results130, go_sem, k0, k1]) rfl ⟨by rw [HD.out, HU.out], below_put (hB5.setCell (p := ⟨B, 1, none⟩) (show w.heap.size ≤ B by omega) _) (Nat.le_refl _) _ _⟩
    · rw [decide_eq_false h1] at hcc
      have HD := Lib.hid (show cD (red x y).2 = cS (red x y).2 by unfold cD; rw [if_neg h1])
      clear h1
      go_region_held3 (fun w' => w'.cell? ⟨B, 0, none⟩ = some (.string u) ∧ w'.cell? ⟨B, 1, none⟩ = some (.string v))
        (go_keep)
        (first
          | (go_at_call 132; (with_reducible refine Calls.mono (qOne _) ?_); (rintro _ _ ⟨rfl, rfl⟩))
          | (go_at_call 97; (with_reducible refine Calls.mono (rCompare_any v ⟨#[49]⟩ _ hsv (by decide)) ?_); (rintro _ _ ⟨rfl, rfl⟩); (rw [HC.out])))
      all_goals obtain ⟨W5, hW5⟩ : ∃ W5, W5 = W4.drew := ⟨_, rfl⟩
      all_goals have hX5 : PairAt W5 B 59 u v := by rw [hW5]; exact hX
      all_goals have hP5 : PairAt W5 w.heap.size 59 ⟨#[]⟩ ⟨#[]⟩ := by rw [hW5]; exact hP4
      all_goals have hB5 : Below w.heap.size w W5 := by rw [hW5]; exact below_drewN hB4 1
      all_goals rw [← hW5]
      all_goals clear hW5
      all_goals obtain ⟨e0, e1, e2, e3⟩ := hX5.cells
      all_goals obtain ⟨f0, f1, f2, f3⟩ := hP5.cells
      all_goals go_wp2_with fail
      all_goals obtain ⟨k0, k1, _, _⟩ := (hP5.put u v).cells
      all_goals exact bodyPost_ret (v := .agg #[.string u, .string v]) (by simp [results, Tryz.results130, go_sem, k0, k1]) rfl ⟨by rw [HD.out, HU.out, ← HVV.out], below_put hB5 (Nat.le_refl _) _ _⟩

end Go.Proofs.YtahnkmkmoalbhaaGreatDoor

/- The reference implementation of layer 2: Raw exactly, Canonical, Check, New, Of, Parts: the walks. -/
namespace Go.Proofs.YtahnkmkmoalbhaaGreatDoor
open Go.RowKit Fra

set_option maxRecDepth 100000 in
set_option maxHeartbeats 2000000 in
theorem qRaw_zero (n d : ByteArray) (w : World) (hG : Ground w) (hd : d.size ≤ 4294967294) (h0 : vS d = 0) :
    Calls Tryz.prog 128 #[.agg #[.string n, .string d]] w fun r w' => r = .returned (.tuple #[.string n, .string ⟨#[49]⟩]) ∧ Below w.heap.size w w' := by
  obtain ⟨W0, hW0⟩ : ∃ W0, W0 = w.alloc (.cells #[.string n, .string d] 59) := ⟨_, rfl⟩
  have hS : StX w W0 59 n d := by rw [hW0]; exact StX.made hG _ _ _
  obtain ⟨c0, c1, _, _⟩ := hS.x.cells
  have HD := Lib.hid h0
  clear h0
  go_enter Tryz.func128, Tryz.ntmps128
  go_wp2_with fail
  rw [← hW0]
  clear hW0
  refine (qZero (x := 0) W0 (by omega) HD.out).mono ?_
  rintro _ _ ⟨rfl, rfl⟩
  go_wp2_with fail
  go_region_held3 (fun w' => w'.cell? ⟨w.heap.size, 0, none⟩ = some (.string n) ∧ w'.cell? ⟨w.heap.size, 1, none⟩ = some (.string d))
    (go_keep)
    ((go_at_call 132; (with_reducible refine Calls.mono (qOne _) ?_); (rintro _ _ ⟨rfl, rfl⟩)))
  all_goals go_wp2_with fail
  all_goals go_ret2
  all_goals exact ⟨rfl, by first | exact hS.below | exact hS.drew.below | exact (hS.drewN _).below⟩

set_option maxRecDepth 100000 in
set_option maxHeartbeats 2000000 in
theorem qRaw_pos (n d : ByteArray) (w : World) (hG : Ground w) (hd : d.size ≤ 4294967294) (h0 : 0 < vS d) :
    Calls Tryz.prog 128 #[.agg #[.string n, .string d]] w fun r w' => r = .returned (.tuple #[.string n, .string d]) ∧ Below w.heap.size w w' := by
  obtain ⟨W0, hW0⟩ : ∃ W0, W0 = w.alloc (.cells #[.string n, .string d] 59) := ⟨_, rfl⟩
  have hS : StX w W0 59 n d := by rw [hW0]; exact StX.made hG _ _ _
  obtain ⟨c0, c1, _, _⟩ := hS.x.cells
  have HC := Lib.hid (show cmp3 (vS d) (vS ⟨#[]⟩) = 1 by rw [vS_nil]; exact cmp3_gt (by omega))
  have HZ := Lib.hid (decide_eq_false (show ¬ vS d = 0 by omega))
  clear h0
  go_enter Tryz.func128, Tryz.ntmps128
  go_wp2_with fail
  rw [← hW0]
  clear hW0
  refine (qZero (x := vS d) W0 (by omega) rfl).mono ?_
  rintro _ _ ⟨rfl, rfl⟩
  rw [HZ.out]
  go_wp2_with fail
  refine (rCompare_any d ⟨#[]⟩ W0 (by omega) (by decide)).mono ?_
  rintro _ _ ⟨rfl, rfl⟩
  rw [HC.out]
  go_wp2_with fail
  go_region
  all_goals go_wp2_with fail
  all_goals go_ret2
  all_goals exact ⟨rfl, by first | exact hS.below | exact hS.drew.below | exact (hS.drewN _).below⟩

theorem qRaw_can {p : Int × Int} (w : World) (hG : Ground w) (hp : 0 < p.2) (hs : (cD p.2).size ≤ 4294967294) :
    Calls Tryz.prog 128 #[.agg #[.string (cS p.1), .string (cD p.2)]] w fun r w' => r = .returned (.tuple #[.string (cS p.1), .string (cS p.2)]) ∧ Below w.heap.size w w' := by
  by_cases h1 : p.2 = 1
  · have := qRaw_zero (cS p.1) (cD p.2) w hG hs (by rw [h1, cD_one]; exact vS_nil)
    rw [show cS p.2 = ⟨#[49]⟩ by rw [h1, cS_one]]
    exact this
  · have e : cD p.2 = cS p.2 := by unfold cD; rw [if_neg h1]
    have := qRaw_pos (cS p.1) (cD p.2) w hG hs (by rw [e, vS_cS]; exact hp)
    rw [e] at this ⊢
    exact this

set_option maxRecDepth 100000 in
set_option maxHeartbeats 2000000 in
theorem qCanonical_any (n d : ByteArray) (w : World) (hG : Ground w) (hn : n.size ≤ 850) (hd : d.size ≤ 850) :
    Calls Tryz.prog 129 #[.agg #[.string n, .string d]] w (FPost w (low (raw n d))) := by
  have HP := Lib.hid (raw_pos n d)
  obtain ⟨W0, hW0⟩ : ∃ W0, W0 = (w.alloc (.cells #[.string n, .string d] 59)).alloc (.cells #[.string ⟨#[]⟩, .string ⟨#[]⟩] 59) := ⟨_, rfl⟩
  have hS : St1 w W0 59 59 n d := by rw [hW0]; exact St1.made hG _ _ _ _
  obtain ⟨c0, c1, _, _⟩ := hS.x.cells
  go_enter Tryz.func129, Tryz.ntmps129
  go_wp2_with fail
  rw [← hW0]
  clear hW0
  refine (qRaw n d W0 851 hS.g (by omega) (by omega) (by decide)).mono ?_
  rintro _ w1 ⟨a, b, rfl, e1, e2, e3, e4, hB⟩
  replace hS := hS.next hB
  have HE1 := Lib.hid e1
  have HE2 := Lib.hid e2
  clear hB e1 e2 c0 c1
  go_wp2_with fail
  refine (show Calls _ _ _ w1 (FPost w1 (low (raw n d))) from qReduced w1 (by omega) (by omega) HE1.out HE2.out HP.out).mono ?_
  rintro _ w2 ⟨rfl, hB⟩
  replace hS := hS.next hB
  clear hB
  obtain ⟨r0, r1, r2, r3⟩ := hS.r.cells
  go_wp2_with fail
  obtain ⟨k0, k1, _, _⟩ := (hS.r.put (cS (low (raw n d)).1) (cD (low (raw n d)).2)).cells
  exact bodyPost_ret (v := .agg #[.string (cS (low (raw n d)).1), .string (cD (low (raw n d)).2)]) (by simp [results, Tryz.results129, go_sem, k0, k1]) rfl ⟨rfl, below_put hS.below (by omega) _ _⟩

set_option maxRecDepth 100000 in
set_option maxHeartbeats 2000000 in
theorem qNew_zero (n d : ByteArray) (w : World) (hd : d.size ≤ 850) (h0 : vS d = 0) :
    Calls Tryz.prog 127 #[.string n, .string d] w fun e w' => e = .returned (.tuple #[.agg #[.string ⟨#[]⟩, .string ⟨#[]⟩], .int .i64 10]) ∧ Below w.heap.size w w' := by
  have HD := Lib.hid h0
  clear h0
  obtain ⟨W0, hW0⟩ : ∃ W0, W0 = w.alloc (.cells #[.string ⟨#[]⟩, .string ⟨#[]⟩] 59) := ⟨_, rfl⟩
  have hB0 : Below w.heap.size w W0 := by rw [hW0]; exact (Below.refl _ _).alloc (Nat.le_refl _) _
  have hP : PairAt W0 w.heap.size 59 ⟨#[]⟩ ⟨#[]⟩ := by rw [hW0]; exact PairAt.made _ _ _ _
  obtain ⟨c4, c5, c6, c7⟩ := hP.cells
  go_enter Tryz.func127, Tryz.ntmps127
  go_wp2_with fail
  rw [← hW0]
  clear hW0
  refine (qZero (x := 0) W0 (by omega) HD.out).mono ?_
  rintro _ _ ⟨rfl, rfl⟩
  go_wp2_with fail
  obtain ⟨k0, k1, _, _⟩ := (hP.put ⟨#[]⟩ ⟨#[]⟩).cells
  exact bodyPost_ret (v := .tuple #[.agg #[.string ⟨#[]⟩, .string ⟨#[]⟩], .int .i64 10]) (by simp [results, Tryz.results127, go_sem, k0, k1]) rfl ⟨rfl, below_put hB0 (Nat.le_refl _) _ _⟩

set_option maxRecDepth 100000 in
set_option maxHeartbeats 2000000 in
theorem qNew_any {n d : ByteArray} {x y : Int} (w : World) (hG : Ground w) (hn : n.size ≤ 850) (hd : d.size ≤ 850) (hx : vS n = x) (hy : vS d = y) (h0 : y ≠ 0) :
    Calls Tryz.prog 127 #[.string n, .string d] w fun e w' => e = .returned (.tuple #[.agg #[.string (cS (redS x y).1), .string (cD (redS x y).2)], .int .i64 0]) ∧ Below w.heap.size w w' := by
  have HE := Lib.hid (show low (raw n d) = redS x y by unfold raw; rw [hx, hy]; exact rawP_redS h0)
  have HY := Lib.hid hy
  have HD := Lib.hid (decide_eq_false h0)
  clear hx hy h0
  obtain ⟨W0, hW0⟩ : ∃ W0, W0 = w.alloc (.cells #[.string ⟨#[]⟩, .string ⟨#[]⟩] 59) := ⟨_, rfl⟩
  have hB0 : Below w.heap.size w W0 := by rw [hW0]; exact (Below.refl _ _).alloc (Nat.le_refl _) _
  have hP : PairAt W0 w.heap.size 59 ⟨#[]⟩ ⟨#[]⟩ := by rw [hW0]; exact PairAt.made _ _ _ _
  go_enter Tryz.func127, Tryz.ntmps127
  go_wp2_with fail
  rw [← hW0]
  clear hW0
  refine (qZero (x := y) W0 (by omega) HY.out).mono ?_
  rintro _ _ ⟨rfl, rfl⟩
  rw [HD.out]
  go_wp2_with fail
  refine (show Calls _ _ _ W0 (FPost W0 (redS x y)) from by have := qCanonical_any n d W0 (hG.below hB0) hn hd; rwa [HE.out] at this).mono ?_
  rintro _ w1 ⟨rfl, hB⟩
  have hP1 := hP.below hB
  have hB1 := hB0.trans (hB.mono hB0.size)
  clear hB hB0 hP
  obtain ⟨c4, c5, c6, c7⟩ := hP1.cells
  go_wp2_with fail
  obtain ⟨k0, k1, _, _⟩ := (hP1.put (cS (redS x y).1) (cD (redS x y).2)).cells
  exact bodyPost_ret (v := .tuple #[.agg #[.string (cS (redS x y).1), .string (cD (redS x y).2)], .int .i64 0]) (by simp [results, Tryz.results127, go_sem, k0, k1]) rfl ⟨rfl, below_put hB1 (Nat.le_refl _) _ _⟩

set_option maxRecDepth 100000 in
set_option maxHeartbeats 2000000 in
theorem qOf_any {a : ByteArray} {x : Int} (w : World) (ha : a.size ≤ 850) (hx : vS a = x) :
    Calls Tryz.prog 95 #[.string a] w fun e w' => e = .returned (.agg #[.string (cS x), .string ⟨#[]⟩]) ∧ Below w.heap.size w w' := by
  have HX := Lib.hid hx
  clear hx
  obtain ⟨W0, hW0⟩ : ∃ W0, W0 = w.alloc (.cells #[.string ⟨#[]⟩, .string ⟨#[]⟩] 59) := ⟨_, rfl⟩
  have hB0 : Below w.heap.size w W0 := by rw [hW0]; exact (Below.refl _ _).alloc (Nat.le_refl _) _
  have hP : PairAt W0 w.heap.size 59 ⟨#[]⟩ ⟨#[]⟩ := by rw [hW0]; exact PairAt.made _ _ _ _
  go_enter Tryz.func95, Tryz.ntmps95
  go_wp2_with fail
  rw [← hW0]
  clear hW0
  refine (qOne W0).mono ?_
  rintro _ _ ⟨rfl, rfl⟩
  go_wp2_with fail
  refine (show Calls _ _ _ W0 (fun e w' => e = .returned (.agg #[.string (cS x), .string ⟨#[]⟩]) ∧ Below W0.heap.size W0 w') from by have := qReduced (x := x) (y := 1) W0 (show a.size ≤ 900 by omega) (show (ByteArray.mk #[49]).size ≤ 900 by decide) HX.out vS_one (by decide); rw [red_one] at this; exact this).mono ?_
  rintro _ w1 ⟨rfl, hB⟩
  have hP1 := hP.below hB
  have hB1 := hB0.trans (hB.mono hB0.size)
  clear hB hB0 hP
  obtain ⟨c4, c5, c6, c7⟩ := hP1.cells
  go_wp2_with fail
  obtain ⟨k0, k1, _, _⟩ := (hP1.put (cS x) ⟨#[]⟩).cells
  exact bodyPost_ret (v := .agg #[.string (cS x), .string ⟨#[]⟩]) (by simp [results, Tryz.results95, go_sem, k0, k1]) rfl ⟨rfl, below_put hB1 (Nat.le_refl _) _ _⟩

set_option maxRecDepth 100000 in
set_option maxHeartbeats 2000000 in
theorem qParts_any (n d : ByteArray) (w : World) (hG : Ground w) (hn : n.size ≤ 850) (hd : d.size ≤ 850) :
    Calls Tryz.prog 93 #[.agg #[.string n, .string d]] w fun r w' => r = .returned (.tuple #[.string (cS (low (raw n d)).1), .string (cS (low (raw n d)).2)]) ∧ Below w.heap.size w w' := by
  have HLP := Lib.hid (low_pos (raw_pos n d))
  have HSZ := Lib.hid (show (cD (low (raw n d)).2).size ≤ 4294967294 by have := cD_size (CapP.low (CapP.of_raw (k := 850) (by decide) hn hd) (raw_pos n d)).2; omega)
  obtain ⟨W0, hW0⟩ : ∃ W0, W0 = w.alloc (.cells #[.string n, .string d] 59) := ⟨_, rfl⟩
  have hS : StX w W0 59 n d := by rw [hW0]; exact StX.made hG _ _ _
  obtain ⟨c0, c1, _, _⟩ := hS.x.cells
  go_enter Tryz.func93, Tryz.ntmps93
  go_wp2_with fail
  rw [← hW0]
  clear hW0
  refine (qCanonical_any n d W0 hS.g hn hd).mono ?_
  rintro _ w1 ⟨rfl, hB⟩
  replace hS := hS.next hB
  clear hB c0 c1
  go_wp2_with fail
  refine (qRaw_can w1 hS.g HLP.out HSZ.out).mono ?_
  rintro _ w2 ⟨rfl, hB⟩
  replace hS := hS.next hB
  clear hB
  go_wp2_with fail
  go_ret2
  exact ⟨rfl, hS.below⟩

end Go.Proofs.YtahnkmkmoalbhaaGreatDoor

/- The reference implementation of layer 2: Neg, Add, Sub, Mul, Quo, Compare, Floor: the walks. -/
namespace Go.Proofs.YtahnkmkmoalbhaaGreatDoor
open Go.RowKit Fra

theorem rsz {k : Nat} {z : Int} (h : Cap k z) {l : Nat} (hk : k + 1 ≤ l) : (cS z).size ≤ l := by have := cS_size h; omega
theorem qMul {a b : ByteArray} {x y z : Int} (w : World) (ha : a.size ≤ 1000) (hb : b.size ≤ 1000) (hx : vS a = x) (hy : vS b = y) (hz : x * y = z) :
    Calls Tryz.prog 131 #[.string a, .string b] w (StrPost w z) := by rw [← hz, ← hx, ← hy]; exact rMul_any a b w ha hb
theorem qCmp {a b : ByteArray} {x y z : Int} (w : World) (ha : a.size ≤ 4294967296) (hb : b.size ≤ 4294967296) (hx : vS a = x) (hy : vS b = y) (hz : cmp3 x y = z) :
    Calls Tryz.prog 97 #[.string a, .string b] w fun e w' => e = .returned (.int .i64 z) ∧ w = w' := by rw [← hz, ← hx, ← hy]; exact rCompare_any a b w ha hb

set_option maxRecDepth 100000 in
set_option maxHeartbeats 2000000 in
theorem qMul_any (n d m e : ByteArray) (w : World) (hG : Ground w) (hn : n.size ≤ 400) (hd : d.size ≤ 400) (hm : m.size ≤ 400) (he : e.size ≤ 400) :
    Calls Tryz.prog 94 #[.agg #[.string n, .string d], .agg #[.string m, .string e]] w (FPost w (mulP (raw n d) (raw m e))) := by
  have cx := CapP.of_raw (k := 400) (by decide) hn hd
  have cy := CapP.of_raw (k := 400) (by decide) hm he
  have xp := raw_pos n d
  have yp := raw_pos m e
  have HU := Lib.hid (show (cS ((raw n d).1 * (raw m e).1)).size ≤ 900 from rsz (Cap.mul cx.1 cy.1) (by decide))
  have HV := Lib.hid (show (cS ((raw n d).2 * (raw m e).2)).size ≤ 900 from rsz (Cap.mul cx.2 cy.2) (by decide))
  have HP := Lib.hid (Int.mul_pos xp yp)
  clear cx cy
  obtain ⟨W0, hW0⟩ : ∃ W0, W0 = (((w.alloc (.cells #[.string n, .string d] 59)).alloc (.cells #[.string m, .string e] 59)).alloc (.cells #[.string ⟨#[]⟩, .string ⟨#[]⟩] 59)) := ⟨_, rfl⟩
  have hS : St2 w W0 59 59 n d m e := by rw [hW0]; exact St2.made hG _ _ _ _ _ _
  obtain ⟨c0, c1, c2, c3, _, _, _, _⟩ := hS.cells
  go_enter Tryz.func94, Tryz.ntmps94
  go_wp2_with fail
  rw [← hW0]
  clear hW0
  refine (qRaw n d W0 401 hS.g (by omega) (by omega) (by decide)).mono ?_
  rintro _ w1 ⟨a, b, rfl, e1, e2, a1, b1, hB⟩
  replace hS := hS.next hB
  have HA := Lib.hid e1
  have HBB := Lib.hid e2
  clear hB e1 e2 c0 c1 c2 c3
  obtain ⟨c0, c1, c2, c3, _, _, _, _⟩ := hS.cells
  go_wp2_with fail
  refine (qRaw m e w1 401 hS.g (by omega) (by omega) (by decide)).mono ?_
  rintro _ w2 ⟨c, f, rfl, e1, e2, c1', f1, hB⟩
  replace hS := hS.next hB
  have HC := Lib.hid e1
  have HF := Lib.hid e2
  clear hB e1 e2 c0 c1 c2 c3
  go_wp2_with fail
  refine (qMul (x := (raw n d).1) (y := (raw m e).1) (z := (raw n d).1 * (raw m e).1) _ (by omega) (by omega) HA.out HC.out rfl).mono ?_
  rintro _ w3 ⟨rfl, hB⟩
  replace hS := hS.next hB
  clear hB
  go_wp2_with fail
  refine (qMul (x := (raw n d).2) (y := (raw m e).2) (z := (raw n d).2 * (raw m e).2) _ (by omega) (by omega) HBB.out HF.out rfl).mono ?_
  rintro _ w4 ⟨rfl, hB⟩
  replace hS := hS.next hB
  clear hB
  go_wp2_with fail
  refine (show Calls _ _ _ w4 (FPost w4 (mulP (raw n d) (raw m e))) from qReduced w4 HU.out HV.out (vS_cS _) (vS_cS _) HP.out).mono ?_
  rintro _ w5 ⟨rfl, hB⟩
  replace hS := hS.next hB
  clear hB
  obtain ⟨r0, r1, r2, r3⟩ := hS.r.cells
  go_wp2_with fail
  obtain ⟨k0, k1, _, _⟩ := (hS.r.put (cS (mulP (raw n d) (raw m e)).1) (cD (mulP (raw n d) (raw m e)).2)).cells
  exact bodyPost_ret (v := .agg #[.string (cS (mulP (raw n d) (raw m e)).1), .string (cD (mulP (raw n d) (raw m e)).2)]) (by simp [results, Tryz.results94, go_sem, k0, k1]) rfl ⟨rfl, below_put hS.below (by omega) _ _⟩

end Go.Proofs.YtahnkmkmoalbhaaGreatDoor

/- The plain mathematics of rounding: by the number rounded down, and what is left over. -/
namespace Go.Proofs.YtahnkmkmoalbhaaGreatDoor.Fra

def rest (x : Int × Int) : Int := x.1 - Int.fdiv x.1 x.2 * x.2
end Go.Proofs.YtahnkmkmoalbhaaGreatDoor.Fra

/- The plain mathematics of decimal texts: their parts, their digits, the text of units with places. -/
namespace Go.Proofs.YtahnkmkmoalbhaaGreatDoor.Num
open Lib (decDigits)

/-- exactly k digits of a number -/
def fixd : Nat → Nat → Bs
  | 0, _ => []
  | k + 1, m => fixd k (m / 10) ++ [UInt8.ofNat (48 + m % 10)]

theorem fixd_length : ∀ (k m : Nat), (fixd k m).length = k
  | 0, _ => rfl
  | k + 1, m => by rw [fixd, List.length_append, fixd_length k]; rfl
theorem fixd_all : ∀ (k m : Nat), (fixd k m).all isDig = true
  | 0, _ => rfl
  | k + 1, m => by rw [fixd, List.all_append, fixd_all k, List.all_cons, isDig_ofNat _ (Nat.mod_lt m (by decide : 0 < 10))]; rfl
theorem num_fixd : ∀ (k m : Nat), num (fixd k m) = m % 10 ^ k
  | 0, m => by rw [fixd, Nat.pow_zero, Nat.mod_one]; rfl
  | k + 1, m => by
    rw [fixd, num_snoc, num_fixd k, dv_ofNat _ (Nat.mod_lt m (by decide : 0 < 10)), Nat.pow_succ, Nat.mul_comm (10 ^ k) 10, Nat.mod_mul]
    omega
theorem ofNat_dv {c : UInt8} (h : isDig c = true) : UInt8.ofNat (48 + dv c) = c := by
  have h1 := (isDig_iff c).mp h
  unfold dv
  rw [show 48 + (c.toNat - 48) = c.toNat by omega]
  simp
theorem fixd_num (r : Bs) : r.reverse.all isDig = true → fixd r.length (num r.reverse) = r.reverse := by
  induction r with
  | nil => intro _; rfl
  | cons c r ih =>
    intro h
    rw [List.reverse_cons, List.all_append] at h
    simp only [Bool.and_eq_true] at h
    have hc : isDig c = true := by simpa using h.2
    have hd : dv c < 10 := by have := (isDig_iff c).mp hc; unfold dv; omega
    rw [List.reverse_cons, List.length_cons, fixd, num_snoc, show (10 * num r.reverse + dv c) / 10 = num r.reverse by omega, show (10 * num r.reverse + dv c) % 10 = dv c by omega, ih h.1, ofNat_dv hc]
theorem fixd_of_num {l : Bs} (h : l.all isDig = true) : fixd l.length (num l) = l := by
  have := fixd_num l.reverse
  rw [List.reverse_reverse, List.length_reverse] at this
  exact this h
theorem fixd_zero : ∀ k : Nat, fixd k 0 = List.replicate k 48
  | 0 => rfl
  | k + 1 => by rw [fixd, Nat.zero_div, fixd_zero k, List.replicate_succ']; rfl
theorem fixd_mod {k m : Nat} : fixd k (m % 10 ^ k) = fixd k m := by
  have h := fixd_of_num (fixd_all k m)
  rwa [fixd_length, num_fixd] at h
/-- a whole part -/
def goodW (l : Bs) : Bool := !l.isEmpty && l.all isDig && (decide (l.length = 1) || decide (l.head? ≠ some 48))
theorem decDigits_zero : decDigits 0 = [48] := by decide +kernel
theorem goodW_digits (n : Nat) : goodW (decDigits n) = true := by
  unfold goodW
  rw [all_decDigits]
  have h1 := decDigits_ne n
  by_cases h : n = 0
  · subst h; rw [decDigits_zero]; rfl
  · have h2 := head_decDigits n h
    simp [h1, h2]
theorem digits_goodW {l : Bs} (h : goodW l = true) : decDigits (num l) = l := by
  unfold goodW at h
  simp only [Bool.and_eq_true, Bool.or_eq_true, decide_eq_true_eq, Bool.not_eq_true', List.isEmpty_eq_false_iff] at h
  obtain ⟨⟨h1, h2⟩, h3⟩ := h
  by_cases hd : l.head? = some 48
  · have hl := h3.resolve_right (fun k => k hd)
    match l, hl, hd with
    | [c], _, hd =>
      have : c = 48 := by simpa using hd
      subst this
      exact decDigits_zero
  · have hp : Plain l := ⟨h2, hd⟩
    have h4 := digs_num hp
    unfold digs at h4
    rwa [if_neg (by have := num_pos hp h1; omega)] at h4

/-- a text by its parts -/
def mk (ng : Bool) (W F : Bs) : Bs := (if ng then [45] else []) ++ (W ++ if F = [] then [] else 46 :: F)

/-- the text of z units with p places -/
def decT (z : Int) (p : Nat) : Bs := mk (decide (z < 0)) (decDigits (z.natAbs / 10 ^ p)) (fixd p z.natAbs)

/-- the parts of a text -/
def dotW (l : Bs) : Bs := (cut l).2.takeWhile (· != 46)
def dotT (l : Bs) : Bs := (cut l).2.dropWhile (· != 46)
def dotF (l : Bs) : Bs := (dotT l).tail
def decM (l : Bs) : Nat := num (dotW l ++ dotF l)
def isDec (l : Bs) : Bool := goodW (dotW l) && ((dotT l).isEmpty || (!(dotF l).isEmpty && (dotF l).all isDig)) && (!(cut l).1 || decide (decM l ≠ 0))
/-- the units of a text, with as many places as it has -/
def decU (l : Bs) : Int := if (cut l).1 then -(decM l : Int) else decM l
def decP (l : Bs) : Nat := (dotF l).length

theorem dig_ne_dot {c : UInt8} (h : isDig c = true) : (c != 46) = true := by
  have h1 := (isDig_iff c).mp h
  have : c ≠ 46 := by intro h2; subst h2; exact absurd h1.1 (by decide)
  simp [this]
theorem take_dot : ∀ {W t : Bs}, W.all isDig = true → (t = [] ∨ t.head? = some 46) → (W ++ t).takeWhile (· != 46) = W ∧ (W ++ t).dropWhile (· != 46) = t
  | [], t, _, h => by
    match t, h with
    | [], _ => exact ⟨rfl, rfl⟩
    | c :: t, h =>
      have : c = 46 := by simpa using h
      subst this
      exact ⟨by simp, by simp⟩
  | c :: W, t, hW, h => by
    rw [List.all_cons, Bool.and_eq_true] at hW
    obtain ⟨h1, h2⟩ := take_dot hW.2 h
    have hc := dig_ne_dot hW.1
    simp only [List.cons_append, List.takeWhile_cons, List.dropWhile_cons, hc, if_true, h1, h2, and_self]

theorem cut_eq (l : Bs) : l = (if (cut l).1 then [45] else []) ++ (cut l).2 := by
  unfold cut
  split
  · next h =>
    match l, h with
    | c :: l, h =>
      have : c = 45 := by simpa using h
      subst this
      rfl
  · rfl

theorem goodW_all {W : Bs} (h : goodW W = true) : W.all isDig = true ∧ W ≠ [] := by
  unfold goodW at h
  simp only [Bool.and_eq_true, Bool.not_eq_true', List.isEmpty_eq_false_iff] at h
  exact ⟨h.1.2, h.1.1⟩

/-- a decimal text is the text of its units with its places -/
theorem isDec_text {l : Bs} (h : isDec l = true) : l = decT (decU l) (decP l) := by
  unfold isDec at h
  simp only [Bool.and_eq_true, Bool.or_eq_true, Bool.not_eq_true', List.isEmpty_iff, List.isEmpty_eq_false_iff, decide_eq_true_eq] at h
  obtain ⟨⟨h1, h2⟩, h3⟩ := h
  have hF : (dotF l).all isDig = true := by
    rcases h2 with h2 | h2
    · unfold dotF; rw [h2]; rfl
    · exact h2.2
  have hlt := num_lt _ hF
  have hM : decM l = num (dotW l) * 10 ^ decP l + num (dotF l) := by unfold decM decP; rw [num_append]
  have hpos : 0 < 10 ^ decP l := Nat.pow_pos (by decide)
  have ha : (decU l).natAbs = decM l := by unfold decU; split <;> omega
  have hs : decide (decU l < 0) = (cut l).1 := by
    unfold decU
    cases hc : (cut l).1
    · simp
    · rw [hc] at h3
      have : decM l ≠ 0 := by simpa using h3
      simp only [if_true]
      rw [decide_eq_true_eq]
      omega
  have hq : decM l / 10 ^ decP l = num (dotW l) := by
    rw [hM, Nat.mul_comm, Nat.mul_add_div hpos, Nat.div_eq_of_lt (by exact hlt), Nat.add_zero]
  have hf : fixd (decP l) (decM l) = dotF l := by
    rw [← fixd_mod, hM, Nat.mul_comm, Nat.mul_add_mod, Nat.mod_eq_of_lt (by exact hlt)]
    exact fixd_of_num hF
  unfold decT mk
  rw [ha, hs, hq, hf, digits_goodW h1]
  have ht : dotT l = if dotF l = [] then [] else 46 :: dotF l := by
    rcases h2 with h2 | h2
    · rw [h2, if_pos (by unfold dotF; rw [h2]; rfl)]
    · rw [if_neg h2.1]
      have hne : dotT l ≠ [] := by intro k; apply h2.1; unfold dotF; rw [k]; rfl
      unfold dotF
      match e : dotT l, hne with
      | c :: t, _ =>
        have := List.head?_dropWhile_not (p := (· != 46)) (l := (cut l).2)
        unfold dotT at e
        rw [e] at this
        have hc : c = 46 := by simpa using this
        rw [hc]; rfl
  rw [← ht]
  unfold dotW dotT
  rw [List.takeWhile_append_dropWhile]
  exact cut_eq l

theorem cut_text (z : Int) (p : Nat) : cut (decT z p) = (decide (z < 0), decDigits (z.natAbs / 10 ^ p) ++ if fixd p z.natAbs = [] then [] else 46 :: fixd p z.natAbs) := by
  unfold decT mk
  cases decide (z < 0)
  · have h1 := goodW_all (goodW_digits (z.natAbs / 10 ^ p))
    match e : decDigits (z.natAbs / 10 ^ p), h1.2 with
    | c :: W, _ =>
      rw [e, List.all_cons, Bool.and_eq_true] at h1
      have := dig_ne_minus h1.1.1
      simp [cut, this]
  · rfl
theorem parts_text (z : Int) (p : Nat) : dotW (decT z p) = decDigits (z.natAbs / 10 ^ p) ∧ dotT (decT z p) = (if p = 0 then [] else 46 :: fixd p z.natAbs) := by
  unfold dotW dotT
  rw [cut_text]
  have h1 := take_dot (W := decDigits (z.natAbs / 10 ^ p)) (t := if fixd p z.natAbs = [] then [] else 46 :: fixd p z.natAbs) (all_decDigits _) (by split <;> simp)
  refine ⟨h1.1, h1.2.trans ?_⟩
  have : fixd p z.natAbs = [] ↔ p = 0 := by rw [← List.length_eq_zero_iff, fixd_length]
  simp only [this]
theorem dotF_text (z : Int) (p : Nat) : dotF (decT z p) = fixd p z.natAbs := by
  unfold dotF
  rw [(parts_text z p).2]
  split
  · next h => subst h; rfl
  · rfl
theorem decP_text (z : Int) (p : Nat) : decP (decT z p) = p := by unfold decP; rw [dotF_text, fixd_length]
theorem decM_text (z : Int) (p : Nat) : decM (decT z p) = z.natAbs := by
  unfold decM
  rw [dotF_text, (parts_text z p).1, num_append, num_decDigits, num_fixd, fixd_length, Nat.mul_comm]
  exact Nat.div_add_mod _ _
theorem decU_text (z : Int) (p : Nat) : decU (decT z p) = z := by
  unfold decU
  rw [decM_text, cut_text]
  simp only [decide_eq_true_eq]
  split <;> omega
theorem isDec_of_text (z : Int) (p : Nat) : isDec (decT z p) = true := by
  unfold isDec
  rw [decM_text, dotF_text, (parts_text z p).1, (parts_text z p).2, cut_text, goodW_digits, fixd_all]
  simp only [Bool.true_and, Bool.and_true, Bool.and_eq_true, Bool.or_eq_true, Bool.not_eq_true', decide_eq_true_eq, decide_eq_false_iff_not, List.isEmpty_iff, List.isEmpty_eq_false_iff]
  refine ⟨?_, by omega⟩
  by_cases h : p = 0
  · left; rw [if_pos h]
  · right
    intro k
    have := fixd_length p z.natAbs
    rw [k] at this
    exact h this.symm

end Go.Proofs.YtahnkmkmoalbhaaGreatDoor.Num

/- The plain mathematics of decimal texts, further: zeros behind, padding, powers of 10, texts with one value. -/
namespace Go.Proofs.YtahnkmkmoalbhaaGreatDoor.Num
open Go.Lib (decDigits)

theorem pow10 (k : Nat) : (0 : Int) < 10 ^ k := Int.pow_pos (by decide)

/-- digits, padded, are a whole part and the digits behind the point -/
theorem pad_split (m n : Nat) : List.replicate (n + 1 - (digs m).length) 48 ++ digs m = decDigits (m / 10 ^ n) ++ fixd n m := by
  have hp := Plain.digs m
  have hn := num_digs m
  have zn : ∀ k : Nat, num (List.replicate k 48) = 0 := fun k => by rw [← fixd_zero, num_fixd, Nat.zero_mod]
  by_cases hl : (digs m).length ≤ n
  · have hlt := num_lt _ hp.1
    rw [hn] at hlt
    have h1 : m < 10 ^ n := Nat.lt_of_lt_of_le hlt (Nat.pow_le_pow_right (by decide) hl)
    have hall : (List.replicate (n - (digs m).length) 48 ++ digs m).all isDig = true := by
      rw [List.all_append, hp.1, Bool.and_true, ← fixd_zero]
      exact fixd_all _ _
    have h2 := fixd_of_num hall
    rw [List.length_append, List.length_replicate, num_append, zn, hn, show n - (digs m).length + (digs m).length = n by omega] at h2
    rw [Nat.zero_mul, Nat.zero_add] at h2
    rw [h2, Nat.div_eq_of_lt h1, decDigits_zero, show n + 1 - (digs m).length = (n - (digs m).length) + 1 by omega, List.replicate_succ]
    rfl
  · rw [show n + 1 - (digs m).length = 0 by omega]
    rw [show List.replicate 0 (48 : UInt8) = [] from rfl, List.nil_append]
    have e := List.take_append_drop ((digs m).length - n) (digs m)
    have hF : ((digs m).drop ((digs m).length - n)).all isDig = true := by
      rw [List.all_eq_true]
      intro c hc
      exact List.all_eq_true.mp hp.1 c (List.mem_of_mem_drop hc)
    have hFl : ((digs m).drop ((digs m).length - n)).length = n := by rw [List.length_drop]; omega
    have hWg : goodW ((digs m).take ((digs m).length - n)) = true := by
      have hW : ((digs m).take ((digs m).length - n)).all isDig = true := by
        rw [List.all_eq_true]
        intro c hc
        exact List.all_eq_true.mp hp.1 c (List.mem_of_mem_take hc)
      have hh : ((digs m).take ((digs m).length - n)).head? = (digs m).head? := by
        rw [List.head?_take, if_neg (by omega)]
      have hne : (digs m).take ((digs m).length - n) ≠ [] := by
        intro k
        have := congrArg List.length k
        rw [List.length_take] at this
        simp only [List.length_nil] at this
        omega
      unfold goodW
      rw [hW, hh]
      simp [hne, hp.2]
    have hnum : num ((digs m).take ((digs m).length - n)) * 10 ^ n + num ((digs m).drop ((digs m).length - n)) = m := by
      have := num_append ((digs m).take ((digs m).length - n)) ((digs m).drop ((digs m).length - n))
      rw [e, hn, hFl] at this
      exact this.symm
    have hlt := num_lt _ hF
    rw [hFl] at hlt
    have hq : m / 10 ^ n = num ((digs m).take ((digs m).length - n)) := by
      conv => lhs; rw [← hnum]
      rw [Nat.mul_comm, Nat.mul_add_div (Nat.pow_pos (by decide)), Nat.div_eq_of_lt hlt, Nat.add_zero]
    have hr : fixd n m = (digs m).drop ((digs m).length - n) := by
      have h3 := fixd_of_num hF
      rw [hFl] at h3
      have h4 : m % 10 ^ n = num ((digs m).drop ((digs m).length - n)) := by
        conv => lhs; rw [← hnum]
        rw [Nat.mul_comm, Nat.mul_add_mod, Nat.mod_eq_of_lt hlt]
      rw [← fixd_mod, h4]
      exact h3
    rw [hq, digits_goodW hWg, hr, e]

/-- a power of 10, written -/
theorem digs_pow (k : Nat) : digs (10 ^ k) = 49 :: List.replicate k 48 := by
  have hall : (49 :: List.replicate k (48 : UInt8)).all isDig = true := by
    rw [List.all_cons, ← fixd_zero, fixd_all]
    rfl
  have h := digs_num (l := 49 :: List.replicate k 48) ⟨hall, by simp⟩
  have zn : num (List.replicate k 48) = 0 := by rw [← fixd_zero, num_fixd, Nat.zero_mod]
  rw [num_cons, zn, List.length_replicate, show dv 49 = 1 from rfl, Nat.one_mul, Nat.add_zero] at h
  exact h

end Go.Proofs.YtahnkmkmoalbhaaGreatDoor.Num

/- The plain mathematics of finite numbers: which numbers divide a power of 10. It imports nothing of the program. -/
namespace Go.Proofs.YtahnkmkmoalbhaaGreatDoor.Num

/-- how often k divides d, and what remains -/
def times (k : Nat) : Nat → Nat → Nat × Nat
  | 0, d => (0, d)
  | f + 1, d => if d % k = 0 then ((times k f (d / k)).1 + 1, (times k f (d / k)).2) else (0, d)

theorem times_eq (k : Nat) : ∀ (f d : Nat), d = k ^ (times k f d).1 * (times k f d).2
  | 0, d => by rw [times, Nat.pow_zero, Nat.one_mul]
  | f + 1, d => by
    rw [times]
    by_cases h : d % k = 0
    · rw [if_pos h]
      have ih := times_eq k f (d / k)
      rw [Nat.pow_succ, Nat.mul_comm (k ^ _) k, Nat.mul_assoc, ← ih, Nat.mul_div_cancel' (Nat.dvd_of_mod_eq_zero h)]
    · rw [if_neg h, Nat.pow_zero, Nat.one_mul]
theorem times_pos {k f d : Nat} (h : 0 < d) : 0 < (times k f d).2 := by
  have h1 := times_eq k f d
  apply Nat.pos_of_ne_zero
  intro h2
  rw [h2, Nat.mul_zero] at h1
  omega
end Go.Proofs.YtahnkmkmoalbhaaGreatDoor.Num

/- The plain mathematics of layer 3's laws: rounding, units and finite numbers by values of fractions. -/
namespace Go.Proofs.YtahnkmkmoalbhaaGreatDoor.Fra

theorem red_dvd {k d : Int} (hd : 0 < d) : red (k * d) d = (k, 1) := by
  rw [red_eq (m := k) (e := 1) hd (by decide) (by rw [Int.mul_one])]
  exact red_lowest (by simp)
theorem red_whole {n d : Int} (hd : 0 < d) : (red n d).2 = 1 ↔ d ∣ n := by
  constructor
  · intro h
    have := red_cross (n := n) (d := d)
    rw [h, Int.mul_one] at this
    exact ⟨(red n d).1, this.symm.trans (Int.mul_comm _ _)⟩
  · rintro ⟨k, rfl⟩
    rw [Int.mul_comm, red_dvd hd]
theorem red_is {n d k : Int} (hd : 0 < d) : red n d = (k, 1) ↔ n = k * d := by
  constructor
  · intro h
    have := red_cross (n := n) (d := d)
    rw [h, Int.mul_one] at this
    exact this.symm
  · intro h; rw [h, red_dvd hd]

/-- a number times an integer -/
theorem mulP_int {x : Int × Int} {t : Int} (hx : 0 < x.2) : mulP (low x) (t, 1) = red (x.1 * t) x.2 := by
  rw [mulP_congr (low_pos hx) (y := (t, 1)) Int.one_pos hx (w := (t, 1)) Int.one_pos Same.low rfl]
  unfold mulP
  rw [Int.mul_one]
/-- the units of a text with b places, at p places -/
theorem units_is {u m : Int} {b p : Nat} : mulP (low (u, 10 ^ b)) (10 ^ p, 1) = (m, 1) ↔ u * 10 ^ p = m * 10 ^ b := by
  rw [mulP_int (Int.pow_pos (by decide)), red_is (Int.pow_pos (by decide))]
theorem units_some {u : Int} {b p : Nat} : (mulP (low (u, 10 ^ b)) (10 ^ p, 1)).2 = 1 ↔ ∃ m : Int, u * 10 ^ p = m * 10 ^ b := by
  rw [mulP_int (Int.pow_pos (by decide)), red_whole (Int.pow_pos (by decide))]
  constructor
  · rintro ⟨k, h⟩; exact ⟨k, by rw [h, Int.mul_comm]⟩
  · rintro ⟨k, h⟩; exact ⟨k, by rw [h, Int.mul_comm]⟩

end Go.Proofs.YtahnkmkmoalbhaaGreatDoor.Fra

/- The plain mathematics of layer 3's program and its reference: what Cut leaves, how a text is put together, the modes, repeated division. -/
namespace Go.Proofs.YtahnkmkmoalbhaaGreatDoor.Num
open Go.Lib (decDigits)

/-- ahead of the first point, and behind it -/
def bef (l : Bs) : Bs := l.takeWhile (· != 46)
def beh (l : Bs) : Bs := (l.dropWhile (· != 46)).tail

theorem bef_eq (l : Bs) : bef l = (if (cut l).1 then [45] else []) ++ dotW l := by
  conv => lhs; rw [cut_eq l]
  unfold bef dotW
  cases (cut l).1
  · simp
  · simp
theorem beh_eq (l : Bs) : beh l = dotF l := by
  conv => lhs; rw [cut_eq l]
  unfold beh dotF dotT
  cases (cut l).1
  · simp
  · simp

theorem num_strip (l : Bs) : num (strip l) = num l := by
  unfold strip
  induction l with
  | nil => rfl
  | cons c r ih =>
    by_cases h : c = 48
    · subst h
      rw [List.dropWhile_cons_of_pos (by rfl), ih, num_cons, show dv 48 = 0 from rfl, Nat.zero_mul, Nat.zero_add]
    · rw [List.dropWhile_cons_of_neg (by simpa using h)]
theorem val_digits {D : Bs} (h : D.all isDig = true) : val D = num D := by
  have hc := cut_of_plain h
  unfold val sneg mag sdig
  rw [hc]
  simp only [h, if_true, num_strip, Bool.false_and, Bool.false_eq_true, if_false]
theorem val_minus {D : Bs} (h : D.all isDig = true) : val (45 :: D) = -(num D : Int) := by
  unfold val sneg mag sdig
  rw [cut_minus]
  simp only [h, if_true, num_strip, Bool.true_and]
  by_cases e : strip D = []
  · have : num D = 0 := by rw [← num_strip, e]; rfl
    simp [e, this]
  · simp [e]

theorem isDec_digits {l : Bs} (h : isDec l = true) : (dotW l ++ dotF l).all isDig = true := by
  unfold isDec at h
  simp only [Bool.and_eq_true, Bool.or_eq_true, Bool.not_eq_true', List.isEmpty_iff, List.isEmpty_eq_false_iff, decide_eq_true_eq] at h
  obtain ⟨⟨h1, h2⟩, h3⟩ := h
  have hF : (dotF l).all isDig = true := by
    rcases h2 with h2 | h2
    · unfold dotF; rw [h2]; rfl
    · exact h2.2
  rw [List.all_append, (goodW_all h1).1, hF]; rfl
/-- the units of a decimal text, as the program reads them -/
theorem val_units {l : Bs} (h : isDec l = true) : val (bef l ++ beh l) = decU l := by
  have hD := isDec_digits h
  rw [bef_eq, beh_eq]
  unfold decU decM
  cases (cut l).1
  · simp only [Bool.false_eq_true, if_false, List.nil_append]
    exact val_digits hD
  · simp only [if_true, List.cons_append, List.nil_append]
    exact val_minus hD
/-- the text that the program compares is the text itself exactly if it is a decimal text -/
theorem good_iff (l : Bs) : decT (val (bef l ++ beh l)) (beh l).length = l ↔ isDec l = true := by
  constructor
  · intro h; rw [← h]; exact isDec_of_text _ _
  · intro h; rw [val_units h, beh_eq]; exact (isDec_text h).symm

/-! ### Where the first point stands -/
def dot (l : Bs) : Nat := (l.takeWhile (· != 46)).length
theorem dot_le (l : Bs) : dot l ≤ l.length := (List.takeWhile_sublist _).length_le
theorem take_bef (l : Bs) : l.take (dot l) = bef l := by
  have h := List.take_left (l₁ := l.takeWhile (· != 46)) (l₂ := l.dropWhile (· != 46))
  rwa [List.takeWhile_append_dropWhile] at h
theorem drop_beh (l : Bs) : l.drop (dot l + 1) = beh l := by
  have h := List.drop_left (l₁ := l.takeWhile (· != 46)) (l₂ := l.dropWhile (· != 46))
  rw [List.takeWhile_append_dropWhile] at h
  rw [← List.drop_drop, show l.drop (dot l) = l.dropWhile (· != 46) from h, List.drop_one]
  rfl
theorem index_dot : ∀ l : Bs, Lib.index l [46] = if dot l < l.length then (dot l : Int) else -1
  | [] => by simp [Lib.index, dot]
  | b :: l => by
    have ih := index_dot l
    by_cases h : b = 46
    · subst h; simp [Lib.index, dot, List.isPrefixOf]
    · have e : dot (b :: l) = dot l + 1 := by simp [dot, h]
      have hp : List.isPrefixOf [46] (b :: l) = false := by simp [List.isPrefixOf]; exact fun e => h e.symm
      rw [Lib.index, hp, ih, e]
      by_cases h2 : dot l < l.length
      · have : ¬ ((dot l : Int) == -1) = true := by simp
        simp [h2, this]
      · simp [h2]
theorem cut_dot (l : Bs) : (Lib.cut l [46]).1 = bef l ∧ (Lib.cut l [46]).2.1 = beh l ∧ (Lib.cut l [46]).2.2 = decide (dot l < l.length) := by
  rw [← take_bef, ← drop_beh]
  unfold Lib.cut
  rw [index_dot]
  by_cases h : dot l < l.length
  · rw [if_pos h, if_pos (by omega)]; simp [h]
  · have hl : dot l = l.length := by have := dot_le l; omega
    rw [if_neg h, if_neg (by omega), hl]; simp
theorem bef_length (l : Bs) : (bef l).length = dot l := rfl
theorem beh_length (l : Bs) : (bef l).length + (beh l).length ≤ l.length := by
  rw [bef_length, ← drop_beh, List.length_drop]
  have := dot_le l
  omega

/-! ### How a text is put together -/
theorem pad_print (m n : Nat) : List.replicate (n + 1 - (decDigits m).length) 48 ++ decDigits m = decDigits (m / 10 ^ n) ++ fixd n m := by
  have h := pad_split m n
  by_cases hm : m = 0
  · subst hm
    rw [← h, decDigits_zero, show digs 0 = [] from rfl, List.append_nil]
    show List.replicate (n + 1 - 1) 48 ++ [48] = List.replicate (n + 1 - 0) 48
    rw [Nat.add_sub_cancel, Nat.sub_zero, List.replicate_succ']
  · have e : digs m = decDigits m := by unfold digs; rw [if_neg hm]
    rwa [e] at h
/-- the digits, padded, at the point -/
theorem at_point (m n : Nat) : (decDigits (m / 10 ^ n) ++ fixd n m).length - n = (decDigits (m / 10 ^ n)).length ∧ n < (decDigits (m / 10 ^ n) ++ fixd n m).length := by
  have h0 : 0 < (decDigits (m / 10 ^ n)).length := List.length_pos_iff.mpr (decDigits_ne _)
  rw [List.length_append, fixd_length]
  omega
theorem decT_list (z : Int) (p : Nat) : decT z p = (if z < 0 then [45] else []) ++ (decDigits (z.natAbs / 10 ^ p) ++ if p = 0 then [] else 46 :: fixd p z.natAbs) := by
  have h : fixd p z.natAbs = [] ↔ p = 0 := by rw [← List.length_eq_zero_iff, fixd_length]
  unfold decT mk
  simp only [h, decide_eq_true_eq]
theorem cut_itoa (z : Int) : cut (Lib.itoa z) = (decide (z < 0), decDigits z.natAbs) := by
  unfold Lib.itoa
  by_cases h : z < 0
  · rw [if_pos h, decide_eq_true h]; rfl
  · rw [if_neg h, decide_eq_false h, show z.toNat = z.natAbs by omega, cut_of_plain (all_decDigits _)]

/-! ### Repeated division -/
/-- how often k divides d, and what remains -/
def tm (k d : Nat) : Nat × Nat := times k d d
theorem tm_eq (k d : Nat) : d = k ^ (tm k d).1 * (tm k d).2 := times_eq k d d
theorem tm_pos {k d : Nat} (hd : 0 < d) : 0 < (tm k d).2 := times_pos hd
theorem tm_le {k d : Nat} (hk : 2 ≤ k) : (tm k d).2 ≤ d := by
  have h := tm_eq k d
  have hp : 0 < k ^ (tm k d).1 := Nat.pow_pos (by omega)
  have h2 := Nat.le_mul_of_pos_left (tm k d).2 hp
  omega
/-- it is not often -/
theorem tm_few {k d c : Nat} (hk : 2 ≤ k) (hd : 0 < d) (h : d < 10 ^ c) : (tm k d).1 < 4 * c := by
  have e := tm_eq k d
  have hp := tm_pos (k := k) hd
  have h1 : k ^ (tm k d).1 ≤ d := by
    conv => rhs; rw [e]
    exact Nat.le_mul_of_pos_right _ hp
  have h2 : 2 ^ (tm k d).1 ≤ k ^ (tm k d).1 := Nat.pow_le_pow_left hk _
  have h3 : 10 ^ c ≤ 2 ^ (4 * c) := by
    rw [Nat.pow_mul]
    exact Nat.pow_le_pow_left (by decide) c
  exact (Nat.pow_lt_pow_iff_right (by decide : 1 < 2)).mp (by omega)
end Go.Proofs.YtahnkmkmoalbhaaGreatDoor.Num

/- The program's layer 3: arePlaces, tenTo, isOdd, goesUp: the walks. -/
namespace Go.Proofs.YtahnkmkmoalbhaaGreatDoor
open Go.RowKit Fra

/-- can there be so many places? -/
def okP (n : Int) : Bool := decide (0 ≤ n ∧ n ≤ 12)
theorem okP_true {n : Int} (h1 : 0 ≤ n) (h2 : n ≤ 12) : okP n = true := decide_eq_true ⟨h1, h2⟩
theorem okP_false {n : Int} (h : n < 0 ∨ 12 < n) : okP n = false := decide_eq_false (fun k => by omega)
theorem dPlaces_any (n : Int) (w : World) :
    Calls Tryz.prog 86 #[.int .i64 n] w fun e w' => e = .returned (.bool (okP n)) ∧ w = w' := by
  by_cases h1 : 0 ≤ n
  · by_cases h2 : n ≤ 12
    · have HD := Lib.hid (okP_true h1 h2)
      go_enter Tryz.func86, Tryz.ntmps86
      go_wp2_with fail
      go_ret
      exact ⟨by rw [HD.out]; rfl, rfl⟩
    · have HD := Lib.hid (okP_false (n := n) (by omega))
      go_enter Tryz.func86, Tryz.ntmps86
      go_wp2_with fail
      go_ret
      exact ⟨by rw [HD.out]; rfl, rfl⟩
  · have HD := Lib.hid (okP_false (n := n) (by omega))
    go_enter Tryz.func86, Tryz.ntmps86
    go_wp2_with fail
    go_ret
    exact ⟨by rw [HD.out]; rfl, rfl⟩

/-- the digits of a power of 10 -/
theorem cS_pow (k : Nat) : cS ((10 : Int) ^ k) = ⟨(49 :: List.replicate k 48).toArray⟩ := by
  unfold cS Num.canon
  have h : ¬ ((10 : Int) ^ k < 0) := by have := Num.pow10 k; omega
  rw [if_neg h, Int.natAbs_pow, show (10 : Int).natAbs = 10 from rfl, Num.digs_pow]
theorem repeat_zero (k : Nat) : Lib.repeatL [48] k = List.replicate k 48 := by
  induction k with
  | zero => rfl
  | succ k ih => rw [List.replicate_succ, ← ih]; rfl
theorem one_zeros (k : Nat) : (ByteArray.mk #[49]) ++ (ByteArray.mk (List.replicate k (48 : UInt8)).toArray) = cS ((10 : Int) ^ k) := by
  rw [cS_pow]
  apply ByteArray.ext
  simp [ByteArray.data_append]

set_option maxHeartbeats 1000000 in
theorem dTen_any (k : Nat) (w : World) (hk : k ≤ 1000000) :
    Calls Tryz.prog 76 #[.int .i64 (k : Int)] w (StrPost w ((10 : Int) ^ k)) := by
  have HE := Lib.hid (one_zeros k)
  have HR := Lib.hid (repeat_zero k)
  obtain ⟨r, hr⟩ : ∃ r, r = ByteArray.mk (List.replicate k (48 : UInt8)).toArray := ⟨_, rfl⟩
  have hs : r.size = k := by rw [hr]; show (List.replicate k (48 : UInt8)).toArray.size = k; simp
  have HQ := Lib.hid hr
  clear hr
  have b1 : ¬ 9223372036854775807 < 1 + r.size := by omega
  go_enter Tryz.func76, Tryz.ntmps76
  go_wp2_with fail
  refine (Tryz.strings_Repeat ⟨#[48]⟩ k w (by omega) (by show 1 * k ≤ _; omega)).mono ?_
  rintro _ w1 ⟨rfl, hB⟩
  rw [show (ByteArray.mk (Lib.repeatL (ByteArray.mk #[48]).data.toList k).toArray) = r by rw [HQ.out, ← HR.out]]
  go_wp2_with fail
  go_ret
  exact ⟨by rw [← HE.out, ← HQ.out]; rfl, hB⟩

end Go.Proofs.YtahnkmkmoalbhaaGreatDoor
