/- The laws' own functions of layer 4: slices.Equal, Great: the walks. -/
import Derived.Test.YthhihdihkddakaaGreatDoorAE
namespace Go.Proofs.YthhihdihkddakaaGreatDoor
open Go.RowKit

set_option maxRecDepth 100000 in
set_option maxHeartbeats 1000000 in
theorem eqStr_len (w : World) (xa ya : Option Addr) (n m cap cap' : Nat) (h : n ≠ m) :
    Calls Tryz.prog 22 #[.slice xa n cap, .slice ya m cap'] w fun e w' => e = .returned (.bool false) ∧ w = w' := by
  have hb : ((n : Int) != (m : Int)) = true := by rw [bne_iff_ne]; omega
  have hb2 : ((n : Int) == (m : Int)) = false := by rw [beq_eq_false_iff_ne]; omega
  go_enter Tryz.func22, Tryz.ntmps22
  go_wp2_with fail
  go_ret
  exact ⟨rfl, rfl⟩

/-- n strings are the same -/
def sameS (n : Nat) (s t : Nat → ByteArray) : Bool := decide (∀ i, i < n → s i = t i)
theorem sameS_true {n : Nat} {s t : Nat → ByteArray} (h : ∀ i, i < n → s i = t i) : sameS n s t = true := decide_eq_true h
set_option maxRecDepth 100000 in
set_option maxHeartbeats 1000000 in
theorem eqStr (w : World) (xa ya : Option Addr) (n cap cap' : Nat) (s t : Nat → ByteArray) (hx : Rs w xa n s) (hy : Rs w ya n t) (hlim : n ≤ 100000) :
    Calls Tryz.prog 22 #[.slice xa n cap, .slice ya n cap'] w fun e w' => e = .returned (.bool (sameS n s t)) ∧ Below w.heap.size w w' := by
  go_enter Tryz.func22, Tryz.ntmps22
  go_wp2_with fail
  go_loopw [13] (fun iv wr => ∃ k : Nat, k ≤ n ∧ iv = .int .i64 (k : Int) ∧ (∀ i, i < k → s i = t i) ∧ ∃ q, wr = w.drewN q) (fun iv _ => n - (intOf iv).toNat)
  case atStart => exact ⟨0, Nat.zero_le _, rfl, fun i hi => by omega, 0, rfl⟩
  case round =>
    obtain ⟨k, hk, rfl, hl, q, rfl⟩ := hrel
    have HL := Lib.hid hl
    clear hl
    by_cases hlt : k < n
    · obtain ⟨b, o, rfl, hb, hck⟩ := Rs.at hx hlt
      obtain ⟨b2, o2, rfl, hb2, hck2⟩ := Rs.at hy hlt
      obtain ⟨x, hxx⟩ : ∃ x, s k = x := ⟨_, rfl⟩
      obtain ⟨y, hyy⟩ : ∃ y, t k = y := ⟨_, rfl⟩
      rw [hxx] at hck
      rw [hyy] at hck2
      clear hx hy
      by_cases he : x = y
      · have HN := Lib.hid (show ∀ i, i < k + 1 → s i = t i from fun i hi => by
          by_cases e : i = k
          · rw [e, hxx, hyy, he]
          · exact HL.out i (by omega))
        subst he
        clear hxx hyy
        go_wp2_with fail
        go_quiet (fail)
        go_wp2_with fail
        go_roundw
        case rel => exact ⟨k + 1, by omega, by simp, HN.out, _, rfl⟩
        case measure => simp [intOf]; omega
      · have HN := Lib.hid (show sameS n s t = false from decide_eq_false fun h => he (by rw [← hxx, ← hyy]; exact h k hlt))
        have hne : (x.toList == y.toList) = false := by rw [beq_toList]; exact decide_eq_false he
        clear hxx hyy he
        go_wp2_with fail
        go_quiet (fail)
        go_wp2_with fail
        go_ret
        exact ⟨by rw [HN.out]; rfl, below_drewN (below_drewN (Below.refl _ _) _) _⟩
    · obtain rfl : k = n := by omega
      clear hx hy
      go_wp2_with fail
      go_ret
      exact ⟨by rw [sameS_true HL.out]; rfl, below_drewN (Below.refl _ _) _⟩

/-- a string of over 30 bytes -/
def over (s : ByteArray) : Bool := decide (30 < s.size)
set_option maxRecDepth 100000 in
set_option maxHeartbeats 1000000 in
theorem rOver (s : ByteArray) (w : World) :
    Calls Tryz.prog 48 #[.string s] w fun e w' => e = .returned (.bool (over s)) ∧ Below w.heap.size w w' := by
  by_cases h : (30 : Int) < s.size
  · have HD := Lib.hid (show over s = true from decide_eq_true (by omega))
    go_enter Tryz.func48, Tryz.ntmps48
    go_wp2_with fail
    go_ret
    exact ⟨by rw [HD.out]; simp, Below.refl _ _⟩
  · have HD := Lib.hid (show over s = false from decide_eq_false (by omega))
    go_enter Tryz.func48, Tryz.ntmps48
    go_wp2_with fail
    go_ret
    exact ⟨by rw [HD.out]; simp, Below.refl _ _⟩

/-- more, or longer, strings than the laws examine -/
def great (n : Nat) (s : Nat → ByteArray) : Bool := decide (12 < n ∧ n ≤ 1000) || (decide (1005 < n) || (List.range n).any fun i => over (s i))
theorem great_false {n : Nat} {s : Nat → ByteArray} (h : great n s = false) : (n ≤ 12 ∨ (1000 < n ∧ n ≤ 1005)) ∧ ∀ i, i < n → (s i).size ≤ 30 := by
  unfold great at h
  rw [Bool.or_eq_false_iff, Bool.or_eq_false_iff] at h
  obtain ⟨h1, h2, h3⟩ := h
  have h1 := of_decide_eq_false h1
  have h2 := of_decide_eq_false h2
  refine ⟨by omega, fun i hi => ?_⟩
  rw [List.any_eq_false] at h3
  have := h3 i (List.mem_range.2 hi)
  unfold over at this
  simp at this
  omega
set_option maxRecDepth 100000 in
set_option maxHeartbeats 1000000 in
theorem rGreat (w : World) (hG : Ground w) (xa : Option Addr) (n cap : Nat) (s : Nat → ByteArray) (hr : Rs w xa n s) (hmax : n ≤ 9223372036854775807) :
    Calls Tryz.prog 12 #[.slice xa n cap] w fun e w' => e = .returned (.bool (great n s)) ∧ Below w.heap.size w w' := by
  by_cases h1 : 12 < n ∧ n ≤ 1000
  · have HD := Lib.hid (show great n s = true by unfold great; rw [decide_eq_true h1]; rfl)
    have i1 : (12 : Int) < n := by omega
    have i2 : (n : Int) ≤ 1000 := by omega
    clear h1 hr hmax
    go_enter Tryz.func12, Tryz.ntmps12
    go_wp2_with fail
    go_ret
    exact ⟨by rw [HD.out]; simp, Below.refl _ _⟩
  · by_cases h2 : 1005 < n
    · have HD := Lib.hid (show great n s = true by unfold great; rw [decide_eq_true h2]; simp)
      have i1 : (12 : Int) < n := by omega
      have i2 : ¬ (n : Int) ≤ 1000 := by omega
      have i3 : (1005 : Int) < n := by omega
      clear h1 h2 hr hmax
      go_enter Tryz.func12, Tryz.ntmps12
      go_wp2_with fail
      go_ret
      exact ⟨by rw [HD.out]; simp, Below.refl _ _⟩
    · have HH := Lib.hid (hasGreat w hG xa n cap s hr (by omega) (fun i => over (s i)) (fun i _ W _ => rOver (s i) W))
      have HD := Lib.hid (show great n s = (List.range n).any fun i => over (s i) by unfold great; rw [decide_eq_false h1, decide_eq_false h2]; rfl)
      rw [← HD.out] at HH
      have i3 : ¬ (1005 : Int) < n := by omega
      by_cases i1 : (12 : Int) < n
      · have i2 : ¬ (n : Int) ≤ 1000 := by omega
        clear h1 h2 hr hmax HD
        go_enter Tryz.func12, Tryz.ntmps12
        go_wp2_with fail
        refine HH.out.mono ?_
        rintro _ w1 ⟨rfl, hB⟩
        go_wp2_with fail
        go_ret
        exact ⟨rfl, hB⟩
      · clear h1 h2 hr hmax HD
        go_enter Tryz.func12, Tryz.ntmps12
        go_wp2_with fail
        refine HH.out.mono ?_
        rintro _ w1 ⟨rfl, hB⟩
        go_wp2_with fail
        go_ret
        exact ⟨rfl, hB⟩

end Go.Proofs.YthhihdihkddakaaGreatDoor

/- The laws' awake of layer 4: the walk. -/
namespace Go.Proofs.YthhihdihkddakaaGreatDoor
open Go.RowKit Fra

def tri (t p q : ByteArray) : Nat → ByteArray := fun i => if i = 0 then t else if i = 1 then p else q
theorem Rs.tri (w : World) (t p q : ByteArray) (ty : TypeId) : Rs (w.alloc (.cells #[.string t, .string p, .string q] ty)) (some ⟨w.heap.size, 0, none⟩) 3 (tri t p q) := Rs.three w t p q ty
theorem fitW_tri {u t p q : ByteArray} (hu : u.size ≤ 1000) (ht : t.size ≤ 1000) (hp : p.size ≤ 1000) (hq : q.size ≤ 1000) : FitW 3 u (tri t p q) :=
  ⟨by omega, by omega, hu, fun _ i _ => by
    unfold YthhihdihkddakaaGreatDoor.tri
    by_cases h : i = 0
    · rw [if_pos h]; exact ht
    · rw [if_neg h]
      by_cases g : i = 1
      · rw [if_pos g]; exact hp
      · rw [if_neg g]; exact hq⟩
theorem aw_share : Ret 26 #[.string ⟨#[53]⟩, .string ⟨#[49]⟩, .string ⟨#[50]⟩] (shareV ⟨#[50]⟩ ⟨#[51]⟩ 0) := by
  have := aShare_ok (t := ⟨#[53]⟩) (p := ⟨#[49]⟩) (q := ⟨#[50]⟩) (by decide) (by decide) (by decide) (by decide +kernel) (by decide +kernel) (z := 2) (by decide +kernel) (by decide +kernel)
  rw [show cS 2 = ⟨#[50]⟩ by decide +kernel, show cS (vS ⟨#[53]⟩ - 2) = ⟨#[51]⟩ by decide +kernel] at this
  exact this

set_option maxRecDepth 100000 in
set_option maxHeartbeats 4000000 in
theorem aawake : Ret 13 #[] (.bool true) := by
  intro w hG
  have HG := Lib.hid hG
  have g1 : weighE ⟨#[49, 48, 48]⟩ 3 (tri ⟨#[49]⟩ ⟨#[49]⟩ ⟨#[49]⟩) = 0 := by decide +kernel
  have g2 : weighE ⟨#[45, 55]⟩ 3 (tri ⟨#[49]⟩ ⟨#[]⟩ ⟨#[50]⟩) = 0 := by decide +kernel
  have v1 : sameS 3 (fun i => cS (Num.splitP (vS ⟨#[49, 48, 48]⟩) (Num.sumN (wtN (tri ⟨#[49]⟩ ⟨#[49]⟩ ⟨#[49]⟩)) 3) (wtN (tri ⟨#[49]⟩ ⟨#[49]⟩ ⟨#[49]⟩)) 3 i)) (tri ⟨#[51, 52]⟩ ⟨#[51, 51]⟩ ⟨#[51, 51]⟩) = true := by decide +kernel
  have v2 : sameS 3 (fun i => cS (Num.splitP (vS ⟨#[45, 55]⟩) (Num.sumN (wtN (tri ⟨#[49]⟩ ⟨#[]⟩ ⟨#[50]⟩)) 3) (wtN (tri ⟨#[49]⟩ ⟨#[]⟩ ⟨#[50]⟩)) 3 i)) (tri ⟨#[45, 50]⟩ ⟨#[]⟩ ⟨#[45, 53]⟩) = true := by decide +kernel
  have v3 : sameS 3 (fun i => cS (Num.runP (vS ⟨#[49, 48, 48]⟩) (Num.sumN (wtN (tri ⟨#[49]⟩ ⟨#[49]⟩ ⟨#[49]⟩)) 3) (wtN (tri ⟨#[49]⟩ ⟨#[49]⟩ ⟨#[49]⟩)) i)) (tri ⟨#[51, 51]⟩ ⟨#[51, 51]⟩ ⟨#[51, 52]⟩) = true := by decide +kernel
  have one : ∀ t p q : ByteArray, t.size ≤ 1000 → p.size ≤ 1000 → q.size ≤ 1000 → ∀ W : World, Rs (W.alloc (.cells #[.string t, .string p, .string q] 22)) (some ⟨W.heap.size, 0, none⟩) 3 (tri t p q) := fun t p q _ _ _ W => Rs.tri W t p q _
  have H1 := Lib.hid (fun W hW => aSplit_ok (W.alloc (.cells #[.string ⟨#[49]⟩, .string ⟨#[49]⟩, .string ⟨#[49]⟩] 22)) hW ⟨#[49, 48, 48]⟩ (some ⟨W.heap.size, 0, none⟩) 3 3 _ (Rs.tri W _ _ _ _) (fitW_tri (by decide) (by decide) (by decide) (by decide)) g1)
  have H2 := Lib.hid (fun W hW => aSplit_ok (W.alloc (.cells #[.string ⟨#[49]⟩, .string ⟨#[]⟩, .string ⟨#[50]⟩] 22)) hW ⟨#[45, 55]⟩ (some ⟨W.heap.size, 0, none⟩) 3 3 _ (Rs.tri W _ _ _ _) (fitW_tri (by decide) (by decide) (by decide) (by decide)) g2)
  have H3 := Lib.hid (fun W hW => aRun_ok (W.alloc (.cells #[.string ⟨#[49]⟩, .string ⟨#[49]⟩, .string ⟨#[49]⟩] 22)) hW ⟨#[49, 48, 48]⟩ (some ⟨W.heap.size, 0, none⟩) 3 3 _ (Rs.tri W _ _ _ _) (fitW_tri (by decide) (by decide) (by decide) (by decide)) g1)
  have V1 := Lib.hid (of_decide_eq_true v1)
  have V2 := Lib.hid (of_decide_eq_true v2)
  have V3 := Lib.hid (of_decide_eq_true v3)
  clear g1 g2 v1 v2 v3 hG one
  have hmax4 : ∀ W : World, (Builtin.max_ #[26, 26, 26, 26] 26 #[.int .i64 0, .int .i64 0, .int .i64 0, .int .i64 0]).run Tryz.prog W = .ok (.int .i64 0) W := fun W => by simp [Builtin.max_, Builtin.max2]
  have hal : ∀ W : World, Below w.heap.size w W → ∀ o, Below w.heap.size w (W.alloc o) := fun W h o => h.alloc h.size o
  go_enter Tryz.func13, Tryz.ntmps13
  go_wp2_with fail
  refine (H1.out w (HG.out.alloc _)).mono ?_
  rintro _ w1 ⟨P, rfl, hP, hB1⟩
  have hr1 : Rs w1 (some ⟨P, 0, none⟩) 3 (tri ⟨#[51, 52]⟩ ⟨#[51, 51]⟩ ⟨#[51, 51]⟩) := Rs.congr hP.rc fun i hi => (V1.out i hi).symm
  have hb1 : Below w.heap.size w w1 := (hal w (Below.refl _ _) _).trans (hB1.mono (by simp))
  clear hB1 hP V1 H1
  go_wp2_with fail
  refine (H2.out w1 ((HG.out.below hb1).alloc _)).mono ?_
  rintro _ w2 ⟨Q, rfl, hQ, hB2⟩
  have hr2 : Rs w2 (some ⟨Q, 0, none⟩) 3 (tri ⟨#[45, 50]⟩ ⟨#[]⟩ ⟨#[45, 53]⟩) := Rs.congr hQ.rc fun i hi => (V2.out i hi).symm
  have hb2 : Below w.heap.size w w2 := (hal w1 hb1 _).trans (hB2.mono (by have := hb1.size; simp; omega))
  replace hr1 := (hr1.alloc _).below hB2
  clear hB2 hQ V2 H2 hb1
  go_wp2_with fail
  refine (H3.out w2 ((HG.out.below hb2).alloc _)).mono ?_
  rintro _ w3 ⟨R, rfl, hR, hB3⟩
  have hr3 : Rs w3 (some ⟨R, 0, none⟩) 3 (tri ⟨#[51, 51]⟩ ⟨#[51, 51]⟩ ⟨#[51, 52]⟩) := Rs.congr hR.rc fun i hi => (V3.out i hi).symm
  have hb3 : Below w.heap.size w w3 := (hal w2 hb2 _).trans (hB3.mono (by have := hb2.size; simp; omega))
  replace hr1 := (hr1.alloc _).below hB3
  replace hr2 := (hr2.alloc _).below hB3
  clear hB3 hR V3 H3 hb2
  go_wp2_with fail
  refine (aw_share w3 (HG.out.below hb3)).mono ?_
  rintro _ w4 ⟨rfl, hB4⟩
  have hb4 := hb3.trans (hB4.mono hb3.size)
  replace hr1 := hr1.below hB4
  replace hr2 := hr2.below hB4
  replace hr3 := hr3.below hB4
  clear hB4 hb3
  go_wp2_with fail
  have E1 := Lib.hid (eqStr _ _ _ 3 3 3 _ _ (hr1.alloc (.cells #[.string ⟨#[51, 52]⟩, .string ⟨#[51, 51]⟩, .string ⟨#[51, 51]⟩] 22)) (Rs.tri w4 ⟨#[51, 52]⟩ ⟨#[51, 51]⟩ ⟨#[51, 51]⟩ 22) (by decide))
  rw [sameS_true (fun _ _ => rfl)] at E1
  refine E1.out.mono ?_
  rintro _ w5 ⟨rfl, hB5⟩
  have hb5 := (hal w4 hb4 _).trans (hB5.mono (by have := hb4.size; simp; omega))
  replace hr2 := (hr2.alloc _).below hB5
  replace hr3 := (hr3.alloc _).below hB5
  clear hB5 hb4 hr1 E1
  go_wp2_with fail
  have E2 := Lib.hid (eqStr _ _ _ 3 3 3 _ _ (hr2.alloc (.cells #[.string ⟨#[45, 50]⟩, .string ⟨#[]⟩, .string ⟨#[45, 53]⟩] 22)) (Rs.tri w5 ⟨#[45, 50]⟩ ⟨#[]⟩ ⟨#[45, 53]⟩ 22) (by decide))
  rw [sameS_true (fun _ _ => rfl)] at E2
  refine E2.out.mono ?_
  rintro _ w6 ⟨rfl, hB6⟩
  have hb6 := (hal w5 hb5 _).trans (hB6.mono (by have := hb5.size; simp; omega))
  replace hr3 := (hr3.alloc _).below hB6
  clear hB6 hb5 hr2 E2
  go_wp2_with fail
  have E3 := Lib.hid (eqStr _ _ _ 3 3 3 _ _ (hr3.alloc (.cells #[.string ⟨#[51, 51]⟩, .string ⟨#[51, 51]⟩, .string ⟨#[51, 52]⟩] 22)) (Rs.tri w6 ⟨#[51, 51]⟩ ⟨#[51, 51]⟩ ⟨#[51, 52]⟩ 22) (by decide))
  rw [sameS_true (fun _ _ => rfl)] at E3
  refine E3.out.mono ?_
  rintro _ w7 ⟨rfl, hB7⟩
  have hb7 := (hal w6 hb6 _).trans (hB7.mono (by have := hb6.size; simp; omega))
  clear hB7 hb6 hr3 E3
  go_wp2_with fail
  go_ret
  exact ⟨rfl, hb7⟩

end Go.Proofs.YthhihdihkddakaaGreatDoor
