/- The laws' own functions of layer 3: ratio, Long, LongFrac, greatText: the walks. -/
import Derived.Test.YtlonbfddhfacmaaGreatDoorDD
namespace Go.Proofs.YtlonbfddhfacmaaGreatDoor
open Go.RowKit Fra

/-- is an integer longer than the statements examine? -/
def longS (s : ByteArray) : Bool := decide (60 < s.size)
theorem longS_true {s : ByteArray} (h : 60 < s.size) : longS s = true := decide_eq_true h
theorem longS_false {s : ByteArray} (h : ¬ 60 < s.size) : longS s = false := decide_eq_false h
theorem rLongI (s : ByteArray) (w : World) :
    Calls Tryz.prog 19 #[.string s] w fun e w' => e = .returned (.bool (longS s)) ∧ w = w' := by
  by_cases h : (60 : Int) < s.size
  · have HD := Lib.hid (longS_true (s := s) (by omega))
    go_enter Tryz.func19, Tryz.ntmps19
    go_wp2_with fail
    go_ret
    exact ⟨by rw [HD.out]; first | rfl | (simp; done) | (simp; omega), rfl⟩
  · have HD := Lib.hid (longS_false (s := s) (by omega))
    go_enter Tryz.func19, Tryz.ntmps19
    go_wp2_with fail
    go_ret
    exact ⟨by rw [HD.out]; first | rfl | (simp; done) | (simp; omega), rfl⟩

def longF (n d : ByteArray) : Bool := longS n || longS d
set_option maxRecDepth 100000 in
set_option maxHeartbeats 1000000 in
theorem rLongF (n d : ByteArray) (w : World) :
    Calls Tryz.prog 11 #[.agg #[.string n, .string d]] w fun e w' => e = .returned (.bool (longF n d)) ∧ Below w.heap.size w w' := by
  obtain ⟨W0, hW0⟩ : ∃ W0, W0 = w.alloc (.cells #[.string n, .string d] 24) := ⟨_, rfl⟩
  have hB0 : Below w.heap.size w W0 := by rw [hW0]; exact (Below.refl _ _).alloc (Nat.le_refl _) _
  have hP : PairAt W0 w.heap.size 24 n d := by rw [hW0]; exact PairAt.made _ _ _ _
  obtain ⟨c0, c1, _, _⟩ := hP.cells
  cases hn : longS n
  · have HN := Lib.hid hn
    have HF := Lib.hid (show longF n d = longS d by unfold longF; rw [hn]; rfl)
    clear hn
    go_enter Tryz.func11, Tryz.ntmps11
    go_wp2_with fail
    rw [← hW0]
    clear hW0
    refine (rLongI n W0).mono ?_
    rintro _ _ ⟨rfl, rfl⟩
    rw [HN.out]
    go_wp2_with fail
    refine (rLongI d W0).mono ?_
    rintro _ _ ⟨rfl, rfl⟩
    go_wp2_with fail
    go_ret
    exact ⟨by rw [HF.out]; rfl, hB0⟩
  · have HN := Lib.hid hn
    have HF := Lib.hid (show longF n d = true by unfold longF; rw [hn]; rfl)
    clear hn
    go_enter Tryz.func11, Tryz.ntmps11
    go_wp2_with fail
    rw [← hW0]
    clear hW0
    refine (rLongI n W0).mono ?_
    rintro _ _ ⟨rfl, rfl⟩
    rw [HN.out]
    go_wp2_with fail
    go_ret
    exact ⟨by rw [HF.out]; rfl, hB0⟩

/-- is a text longer than the statements examine? -/
def greatT (s : ByteArray) : Bool := (decide (60 < s.size) && decide (s.size ≤ 65536)) || decide (65636 < s.size)
set_option maxHeartbeats 1000000 in
theorem rGreatT (s : ByteArray) (w : World) :
    Calls Tryz.prog 20 #[.string s] w fun e w' => e = .returned (.bool (greatT s)) ∧ w = w' := by
  by_cases h1 : (60 : Int) < s.size
  · by_cases h2 : (s.size : Int) ≤ 65536
    · have HD := Lib.hid (show greatT s = true by unfold greatT; rw [decide_eq_true (show 60 < s.size by omega), decide_eq_true (show s.size ≤ 65536 by omega)]; rfl)
      go_enter Tryz.func20, Tryz.ntmps20
      go_wp2_with fail
      go_ret
      exact ⟨by rw [HD.out]; first | rfl | (simp; done) | (simp; omega), rfl⟩
    · by_cases h3 : (65636 : Int) < s.size
      · have HD := Lib.hid (show greatT s = true by unfold greatT; rw [decide_eq_true (show 65636 < s.size by omega), Bool.or_true])
        go_enter Tryz.func20, Tryz.ntmps20
        go_wp2_with fail
        go_ret
        exact ⟨by rw [HD.out]; first | rfl | (simp; done) | (simp; omega), rfl⟩
      · have HD := Lib.hid (show greatT s = false by unfold greatT; rw [decide_eq_false (show ¬ s.size ≤ 65536 by omega), decide_eq_false (show ¬ 65636 < s.size by omega), Bool.and_false]; rfl)
        go_enter Tryz.func20, Tryz.ntmps20
        go_wp2_with fail
        go_ret
        exact ⟨by rw [HD.out]; first | rfl | (simp; done) | (simp; omega), rfl⟩
  · have HD := Lib.hid (show greatT s = false by unfold greatT; rw [decide_eq_false (show ¬ 60 < s.size by omega), decide_eq_false (show ¬ 65636 < s.size by omega), Bool.false_and]; rfl)
    go_enter Tryz.func20, Tryz.ntmps20
    go_wp2_with fail
    go_ret
    exact ⟨by rw [HD.out]; first | rfl | (simp; done) | (simp; omega), rfl⟩

set_option maxRecDepth 100000 in
set_option maxHeartbeats 2000000 in
theorem ratio_v {n d : Int} {x : Int × Int} (hn0 : -9223372036854775808 ≤ n) (hn1 : n ≤ 9223372036854775807) (hd0 : -9223372036854775808 ≤ d) (hd1 : d ≤ 9223372036854775807) (h0 : d ≠ 0) (hx : redS n d = x) :
    Ret 32 #[.int .i64 n, .int .i64 d] (.agg #[.string (cS x.1), .string (cD x.2)]) := by
  intro w hG
  have H0 := Lib.hid h0
  have HX := Lib.hid hx
  have HS1 := Lib.hid (show (cS n).size ≤ 100000 by have := cS_int (z := n) (by omega) (by omega); omega)
  have HS2 := Lib.hid (show (cS d).size ≤ 100000 by have := cS_int (z := d) (by omega) (by omega); omega)
  clear h0 hx
  obtain ⟨W0, hW0⟩ : ∃ W0, W0 = w.alloc (.cells #[.string ⟨#[]⟩, .string ⟨#[]⟩] 24) := ⟨_, rfl⟩
  have hS : StL w W0 [(w.heap.size, ⟨#[]⟩, ⟨#[]⟩)] := by rw [hW0]; exact StL.one hG _ _
  go_enter Tryz.func32, Tryz.ntmps32
  go_upto_region 1 with fail
  rw [← hW0]
  clear hW0
  obtain ⟨fp0, _⟩ := hS.box
  obtain ⟨fx0, fy0, _, _⟩ := fp0.cells
  go_wp2_with fail
  clear fp0 fx0 fy0
  refine Calls.mono (of_any n _ hS.g hn0 hn1) ?_
  rintro _ w1 ⟨rfl, hB⟩
  replace hS := hS.next hB
  clear hB
  obtain ⟨fp0, _⟩ := hS.box
  obtain ⟨fx0, fy0, _, _⟩ := fp0.cells
  go_wp2_with fail
  clear fp0 fx0 fy0
  refine Calls.mono (of_any d _ hS.g hd0 hd1) ?_
  rintro _ w2 ⟨rfl, hB⟩
  replace hS := hS.next hB
  clear hB
  obtain ⟨fp0, _⟩ := hS.box
  obtain ⟨fx0, fy0, _, _⟩ := fp0.cells
  go_wp2_with fail
  clear fp0 fx0 fy0
  refine Calls.mono (fNew_v _ hS.g HS1.out HS2.out (vS_cS _) (vS_cS _) H0.out HX.out) ?_
  rintro _ w3 ⟨rfl, hB⟩
  replace hS := hS.next hB
  clear hB
  go_upto_region 2 with fail
  obtain ⟨b4, hb4⟩ : ∃ b, b = w3.heap.size := ⟨_, rfl⟩
  obtain ⟨V4, hV4⟩ : ∃ V, V = w3.alloc (.cells #[.string (cS x.1), .string (cD x.2)] 24) := ⟨_, rfl⟩
  have hT : StL w V4 [(b4, (cS x.1), (cD x.2)), (w.heap.size, ⟨#[]⟩, ⟨#[]⟩)] := by rw [hV4, hb4]; exact hS.alloc _ _
  rw [← hb4, ← hV4]
  clear hV4 hb4 hS
  have hS := hT
  clear hT
  have hne : b4 ≠ w.heap.size := (List.pairwise_cons.1 hS.nd).1 _ (List.mem_cons_self ..)
  obtain ⟨fp0, fp1, _⟩ := hS.box
  obtain ⟨fx0, fy0, fz0, fw0⟩ := fp0.cells
  obtain ⟨fx1, fy1, fz1, fw1⟩ := fp1.cells
  go_wp2_with fail
  obtain ⟨k0, k1, _, _⟩ := (fp1.put (cS x.1) (cD x.2)).cells
  exact bodyPost_ret (v := .agg #[.string (cS x.1), .string (cD x.2)]) (by simp [results, Tryz.results32, go_sem, k0, k1]) rfl ⟨rfl, below_put hS.below (Nat.le_refl _) _ _⟩

theorem ratio_m5_2 : Ret 32 #[.int .i64 (-5), .int .i64 2] (.agg #[.string ⟨#[45, 53]⟩, .string ⟨#[50]⟩]) := by
  have h := ratio_v (n := -5) (d := 2) (x := (-5, 2)) (by decide) (by decide) (by decide) (by decide) (by decide) (by decide +kernel)
  rwa [show cS (-5, 2).1 = ⟨#[45, 53]⟩ by decide +kernel, show cD (-5, 2).2 = ⟨#[50]⟩ by decide +kernel] at h
theorem ratio_1_8 : Ret 32 #[.int .i64 (1), .int .i64 8] (.agg #[.string ⟨#[49]⟩, .string ⟨#[56]⟩]) := by
  have h := ratio_v (n := 1) (d := 8) (x := (1, 8)) (by decide) (by decide) (by decide) (by decide) (by decide) (by decide +kernel)
  rwa [show cS (1, 8).1 = ⟨#[49]⟩ by decide +kernel, show cD (1, 8).2 = ⟨#[56]⟩ by decide +kernel] at h
theorem ratio_1_3 : Ret 32 #[.int .i64 (1), .int .i64 3] (.agg #[.string ⟨#[49]⟩, .string ⟨#[51]⟩]) := by
  have h := ratio_v (n := 1) (d := 3) (x := (1, 3)) (by decide) (by decide) (by decide) (by decide) (by decide) (by decide +kernel)
  rwa [show cS (1, 3).1 = ⟨#[49]⟩ by decide +kernel, show cD (1, 3).2 = ⟨#[51]⟩ by decide +kernel] at h
theorem ratio_1_1 : Ret 32 #[.int .i64 (1), .int .i64 1] (.agg #[.string ⟨#[49]⟩, .string ⟨#[]⟩]) := by
  have h := ratio_v (n := 1) (d := 1) (x := (1, 1)) (by decide) (by decide) (by decide) (by decide) (by decide) (by decide +kernel)
  rwa [show cS (1, 1).1 = ⟨#[49]⟩ by decide +kernel, show cD (1, 1).2 = ⟨#[]⟩ by decide +kernel] at h
theorem ratio_0_1 : Ret 32 #[.int .i64 (0), .int .i64 1] (.agg #[.string ⟨#[]⟩, .string ⟨#[]⟩]) := by
  have h := ratio_v (n := 0) (d := 1) (x := (0, 1)) (by decide) (by decide) (by decide) (by decide) (by decide) (by decide +kernel)
  rwa [show cS (0, 1).1 = ⟨#[]⟩ by decide +kernel, show cD (0, 1).2 = ⟨#[]⟩ by decide +kernel] at h
theorem ratio_1_2 : Ret 32 #[.int .i64 (1), .int .i64 2] (.agg #[.string ⟨#[49]⟩, .string ⟨#[50]⟩]) := by
  have h := ratio_v (n := 1) (d := 2) (x := (1, 2)) (by decide) (by decide) (by decide) (by decide) (by decide) (by decide +kernel)
  rwa [show cS (1, 2).1 = ⟨#[49]⟩ by decide +kernel, show cD (1, 2).2 = ⟨#[50]⟩ by decide +kernel] at h
/-! ### The chapter's examples -/
theorem val_lit {n d : ByteArray} {x : Int × Int} (h : raw n d = x) (h1 : n.size ≤ 99998) (h2 : d.size ≤ 99998) : Val n d x := ⟨h, h1, h2⟩
theorem aw_round1 : Ret 13 #[.agg #[.string ⟨#[45, 53]⟩, .string ⟨#[50]⟩], .int .i64 1] (two ⟨#[45, 50]⟩ 0) := by
  have h := round_ok (n := ⟨#[45, 53]⟩) (d := ⟨#[50]⟩) (x := (-5, 2)) (m := 1) (z := -2) (val_lit (by decide +kernel) (by decide) (by decide)) (by decide) (by decide) (by decide +kernel)
  rwa [show cS (-2) = ⟨#[45, 50]⟩ by decide +kernel] at h
theorem aw_round2 : Ret 13 #[.agg #[.string ⟨#[45, 53]⟩, .string ⟨#[50]⟩], .int .i64 2] (two ⟨#[45, 51]⟩ 0) := by
  have h := round_ok (n := ⟨#[45, 53]⟩) (d := ⟨#[50]⟩) (x := (-5, 2)) (m := 2) (z := -3) (val_lit (by decide +kernel) (by decide) (by decide)) (by decide) (by decide) (by decide +kernel)
  rwa [show cS (-3) = ⟨#[45, 51]⟩ by decide +kernel] at h
theorem aw_round3 : Ret 13 #[.agg #[.string ⟨#[45, 53]⟩, .string ⟨#[50]⟩], .int .i64 3] (two ⟨#[45, 50]⟩ 0) := by
  have h := round_ok (n := ⟨#[45, 53]⟩) (d := ⟨#[50]⟩) (x := (-5, 2)) (m := 3) (z := -2) (val_lit (by decide +kernel) (by decide) (by decide)) (by decide) (by decide) (by decide +kernel)
  rwa [show cS (-2) = ⟨#[45, 50]⟩ by decide +kernel] at h
theorem aw_round4 : Ret 13 #[.agg #[.string ⟨#[45, 53]⟩, .string ⟨#[50]⟩], .int .i64 4] (two ⟨#[45, 51]⟩ 0) := by
  have h := round_ok (n := ⟨#[45, 53]⟩) (d := ⟨#[50]⟩) (x := (-5, 2)) (m := 4) (z := -3) (val_lit (by decide +kernel) (by decide) (by decide)) (by decide) (by decide) (by decide +kernel)
  rwa [show cS (-3) = ⟨#[45, 51]⟩ by decide +kernel] at h
theorem aw_round5 : Ret 13 #[.agg #[.string ⟨#[45, 53]⟩, .string ⟨#[50]⟩], .int .i64 5] (two ⟨#[45, 51]⟩ 0) := by
  have h := round_ok (n := ⟨#[45, 53]⟩) (d := ⟨#[50]⟩) (x := (-5, 2)) (m := 5) (z := -3) (val_lit (by decide +kernel) (by decide) (by decide)) (by decide) (by decide) (by decide +kernel)
  rwa [show cS (-3) = ⟨#[45, 51]⟩ by decide +kernel] at h
theorem aw_round6 : Ret 13 #[.agg #[.string ⟨#[45, 53]⟩, .string ⟨#[50]⟩], .int .i64 6] (two ⟨#[45, 50]⟩ 0) := by
  have h := round_ok (n := ⟨#[45, 53]⟩) (d := ⟨#[50]⟩) (x := (-5, 2)) (m := 6) (z := -2) (val_lit (by decide +kernel) (by decide) (by decide)) (by decide) (by decide) (by decide +kernel)
  rwa [show cS (-2) = ⟨#[45, 50]⟩ by decide +kernel] at h
theorem aw_text : Ret 21 #[.string ⟨#[45, 53]⟩, .int .i64 2] (two ⟨#[45, 48, 46, 48, 53]⟩ 0) := by
  have h := text_ok (s := ⟨#[45, 53]⟩) (z := -5) (p := 2) (by decide) (by decide +kernel) (by decide)
  rwa [show txt (-5) 2 = ⟨#[45, 48, 46, 48, 53]⟩ by decide +kernel] at h
theorem aw_parse : Ret 23 #[.string ⟨#[49, 46, 53, 48]⟩, .int .i64 1] (two ⟨#[49, 53]⟩ 0) := by
  have h := dParse_ok (s := ⟨#[49, 46, 53, 48]⟩) (p := 1) (m := 15) (by decide) (by decide +kernel) (by decide) (by decide +kernel)
  rwa [show cS 15 = ⟨#[49, 53]⟩ by decide +kernel] at h
theorem aw_inexact : Ret 23 #[.string ⟨#[49, 46, 53, 53]⟩, .int .i64 1] (two ⟨#[]⟩ 22) :=
  dParse_inexact (s := ⟨#[49, 46, 53, 53]⟩) (p := 1) (by decide) (by decide +kernel) (by decide) (by decide +kernel)
theorem aw_fin : Ret 27 #[.agg #[.string ⟨#[49]⟩, .string ⟨#[56]⟩]] (.tuple #[.int .i64 3, .bool true]) := by
  have h := finite_any (n := ⟨#[49]⟩) (d := ⟨#[56]⟩) (x := (1, 8)) (val_lit (by decide +kernel) (by decide) (by decide))
  rwa [show finV (1, 8) = .tuple #[.int .i64 3, .bool true] by unfold finV; rw [show Num.fin (low ((1 : Int), (8 : Int))).2.toNat = some 3 by decide +kernel]; rfl] at h
theorem aw_not : Ret 27 #[.agg #[.string ⟨#[49]⟩, .string ⟨#[51]⟩]] (.tuple #[.int .i64 0, .bool false]) := by
  have h := finite_any (n := ⟨#[49]⟩) (d := ⟨#[51]⟩) (x := (1, 3)) (val_lit (by decide +kernel) (by decide) (by decide))
  rwa [show finV (1, 3) = .tuple #[.int .i64 0, .bool false] by unfold finV; rw [show Num.fin (low ((1 : Int), (3 : Int))).2.toNat = none by decide +kernel]] at h

/-- the list of what the modes make of -5/2 -/
def Wants (W : World) (b : Nat) : Prop := W.heap[b]? = some (.cells #[.string ⟨#[]⟩, .string ⟨#[45, 50]⟩, .string ⟨#[45, 51]⟩, .string ⟨#[45, 50]⟩, .string ⟨#[45, 51]⟩, .string ⟨#[45, 51]⟩, .string ⟨#[45, 50]⟩] 53 (0, 0))
theorem Wants.below {W W' : World} {b : Nat} (h : Wants W b) (hb : Below W.heap.size W W') : Wants W' b := by
  have hl : b < W.heap.size := by
    rcases Nat.lt_or_ge b W.heap.size with k | k
    · exact k
    · unfold Wants at h; rw [Array.getElem?_eq_none k] at h; simp at h
  unfold Wants at *
  rw [hb.block b hl]; exact h
set_option maxRecDepth 100000 in
set_option maxHeartbeats 4000000 in
theorem dawake_any : Ret 12 #[] (.bool true) := by
  intro w hG
  obtain ⟨W0, hW0⟩ : ∃ W0, W0 = w.alloc (.cells #[.string ⟨#[]⟩, .string ⟨#[45, 50]⟩, .string ⟨#[45, 51]⟩, .string ⟨#[45, 50]⟩, .string ⟨#[45, 51]⟩, .string ⟨#[45, 51]⟩, .string ⟨#[45, 50]⟩] 53) := ⟨_, rfl⟩
  have hB0 : Below w.heap.size w W0 := by rw [hW0]; exact (Below.refl _ _).alloc (Nat.le_refl _) _
  have hA0 : Wants W0 w.heap.size := by rw [hW0]; exact heap_alloc_new w _
  go_enter Tryz.func12, Tryz.ntmps12
  go_wp2_with fail
  rw [← hW0]
  clear hW0
  go_loopw [2] (fun mv wr => ∃ z : Int, 1 ≤ z ∧ z ≤ 7 ∧ mv = .int .i64 z ∧ Wants wr w.heap.size ∧ Below w.heap.size w wr) (fun mv _ => (7 - intOf mv).toNat)
  case atStart => exact ⟨1, by decide, by decide, rfl, hA0, hB0⟩
  case round =>
    obtain ⟨z, hz1, hz2, rfl, hA, hB⟩ := hrel
    by_cases hz : z ≤ 6
    · have hcs : z = 1 ∨ z = 2 ∨ z = 3 ∨ z = 4 ∨ z = 5 ∨ z = 6 := by omega
      rcases hcs with rfl | rfl | rfl | rfl | rfl | rfl
      · clear hz hz1 hz2
        go_wp2_with fail
        refine (ratio_m5_2.call wr (hG.below hB)).mono ?_
        rintro _ w1 ⟨rfl, hB1⟩
        have hA1 := hA.below hB1
        replace hB := hB.trans (hB1.mono hB.size)
        clear hB1 hA
        go_wp2_with fail
        refine (aw_round1.call w1 (hG.below hB)).mono ?_
        rintro _ w2 ⟨rfl, hB1⟩
        have hA := hA1.below hB1
        replace hB := hB.trans (hB1.mono hB.size)
        clear hB1 hA1
        have hc : w2.cell? ⟨w.heap.size, 1, none⟩ = some (.string ⟨#[45, 50]⟩) := by rw [cell_of_row _ _ _ _ _ _ hA]; rfl
        go_wp2_with fail
        go_roundw
        case rel => exact ⟨2, by decide, by decide, by first | rfl | simp, hA, hB⟩
        case measure => simp [intOf]
      · clear hz hz1 hz2
        go_wp2_with fail
        refine (ratio_m5_2.call wr (hG.below hB)).mono ?_
        rintro _ w1 ⟨rfl, hB1⟩
        have hA1 := hA.below hB1
        replace hB := hB.trans (hB1.mono hB.size)
        clear hB1 hA
        go_wp2_with fail
        refine (aw_round2.call w1 (hG.below hB)).mono ?_
        rintro _ w2 ⟨rfl, hB1⟩
        have hA := hA1.below hB1
        replace hB := hB.trans (hB1.mono hB.size)
        clear hB1 hA1
        have hc : w2.cell? ⟨w.heap.size, 2, none⟩ = some (.string ⟨#[45, 51]⟩) := by rw [cell_of_row _ _ _ _ _ _ hA]; rfl
        go_wp2_with fail
        go_roundw
        case rel => exact ⟨3, by decide, by decide, by first | rfl | simp, hA, hB⟩
        case measure => simp [intOf]
      · clear hz hz1 hz2
        go_wp2_with fail
        refine (ratio_m5_2.call wr (hG.below hB)).mono ?_
        rintro _ w1 ⟨rfl, hB1⟩
        have hA1 := hA.below hB1
        replace hB := hB.trans (hB1.mono hB.size)
        clear hB1 hA
        go_wp2_with fail
        refine (aw_round3.call w1 (hG.below hB)).mono ?_
        rintro _ w2 ⟨rfl, hB1⟩
        have hA := hA1.below hB1
        replace hB := hB.trans (hB1.mono hB.size)
        clear hB1 hA1
        have hc : w2.cell? ⟨w.heap.size, 3, none⟩ = some (.string ⟨#[45, 50]⟩) := by rw [cell_of_row _ _ _ _ _ _ hA]; rfl
        go_wp2_with fail
        go_roundw
        case rel => exact ⟨4, by decide, by decide, by first | rfl | simp, hA, hB⟩
        case measure => simp [intOf]
      · clear hz hz1 hz2
        go_wp2_with fail
        refine (ratio_m5_2.call wr (hG.below hB)).mono ?_
        rintro _ w1 ⟨rfl, hB1⟩
        have hA1 := hA.below hB1
        replace hB := hB.trans (hB1.mono hB.size)
        clear hB1 hA
        go_wp2_with fail
        refine (aw_round4.call w1 (hG.below hB)).mono ?_
        rintro _ w2 ⟨rfl, hB1⟩
        have hA := hA1.below hB1
        replace hB := hB.trans (hB1.mono hB.size)
        clear hB1 hA1
        have hc : w2.cell? ⟨w.heap.size, 4, none⟩ = some (.string ⟨#[45, 51]⟩) := by rw [cell_of_row _ _ _ _ _ _ hA]; rfl
        go_wp2_with fail
        go_roundw
        case rel => exact ⟨5, by decide, by decide, by first | rfl | simp, hA, hB⟩
        case measure => simp [intOf]
      · clear hz hz1 hz2
        go_wp2_with fail
        refine (ratio_m5_2.call wr (hG.below hB)).mono ?_
        rintro _ w1 ⟨rfl, hB1⟩
        have hA1 := hA.below hB1
        replace hB := hB.trans (hB1.mono hB.size)
        clear hB1 hA
        go_wp2_with fail
        refine (aw_round5.call w1 (hG.below hB)).mono ?_
        rintro _ w2 ⟨rfl, hB1⟩
        have hA := hA1.below hB1
        replace hB := hB.trans (hB1.mono hB.size)
        clear hB1 hA1
        have hc : w2.cell? ⟨w.heap.size, 5, none⟩ = some (.string ⟨#[45, 51]⟩) := by rw [cell_of_row _ _ _ _ _ _ hA]; rfl
        go_wp2_with fail
        go_roundw
        case rel => exact ⟨6, by decide, by decide, by first | rfl | simp, hA, hB⟩
        case measure => simp [intOf]
      · clear hz hz1 hz2
        go_wp2_with fail
        refine (ratio_m5_2.call wr (hG.below hB)).mono ?_
        rintro _ w1 ⟨rfl, hB1⟩
        have hA1 := hA.below hB1
        replace hB := hB.trans (hB1.mono hB.size)
        clear hB1 hA
        go_wp2_with fail
        refine (aw_round6.call w1 (hG.below hB)).mono ?_
        rintro _ w2 ⟨rfl, hB1⟩
        have hA := hA1.below hB1
        replace hB := hB.trans (hB1.mono hB.size)
        clear hB1 hA1
        have hc : w2.cell? ⟨w.heap.size, 6, none⟩ = some (.string ⟨#[45, 50]⟩) := by rw [cell_of_row _ _ _ _ _ _ hA]; rfl
        go_wp2_with fail
        go_roundw
        case rel => exact ⟨7, by decide, by decide, by first | rfl | simp, hA, hB⟩
        case measure => simp [intOf]
    · obtain rfl : z = 7 := by omega
      clear hz hz1 hz2 hA hA0 hB0
      go_wp2_with fail
      refine (aw_text.call wr (hG.below hB)).mono ?_
      rintro _ v1 ⟨rfl, hB1⟩
      replace hB := hB.trans (hB1.mono hB.size)
      clear hB1
      go_wp2_with fail
      refine (aw_parse.call v1 (hG.below hB)).mono ?_
      rintro _ v2 ⟨rfl, hB1⟩
      replace hB := hB.trans (hB1.mono hB.size)
      clear hB1
      go_wp2_with fail
      refine (aw_inexact.call v2 (hG.below hB)).mono ?_
      rintro _ v3 ⟨rfl, hB1⟩
      replace hB := hB.trans (hB1.mono hB.size)
      clear hB1
      go_wp2_with fail
      refine (ratio_1_8.call v3 (hG.below hB)).mono ?_
      rintro _ v4 ⟨rfl, hB1⟩
      replace hB := hB.trans (hB1.mono hB.size)
      clear hB1
      go_wp2_with fail
      refine (aw_fin.call v4 (hG.below hB)).mono ?_
      rintro _ v5 ⟨rfl, hB1⟩
      replace hB := hB.trans (hB1.mono hB.size)
      clear hB1
      go_wp2_with fail
      refine (ratio_1_3.call v5 (hG.below hB)).mono ?_
      rintro _ v6 ⟨rfl, hB1⟩
      replace hB := hB.trans (hB1.mono hB.size)
      clear hB1
      go_wp2_with fail
      refine (aw_not.call v6 (hG.below hB)).mono ?_
      rintro _ v7 ⟨rfl, hB1⟩
      replace hB := hB.trans (hB1.mono hB.size)
      clear hB1
      go_wp2_with fail
      go_ret
      exact ⟨rfl, hB⟩

end Go.Proofs.YtlonbfddhfacmaaGreatDoor

/- What the laws of layer 3 hold the program's answers against, by values. -/
namespace Go.Proofs.YtlonbfddhfacmaaGreatDoor
open Go.RowKit Fra

theorem txt_list (z : Int) (p : Nat) : (txt z p).data.toList = Num.decT z p := rfl
theorem isDec_txt (z : Int) (p : Nat) : isDecS (txt z p) = true := by unfold isDecS; rw [txt_list]; exact Num.isDec_of_text z p
theorem units_txt (z : Int) (p : Nat) : unitsD (txt z p) = z := by unfold unitsD; rw [txt_list]; exact Num.decU_text z p
theorem places_txt (z : Int) (p : Nat) : placesD (txt z p) = p := by unfold placesD; rw [txt_list]; exact Num.decP_text z p
theorem txt_size {z : Int} {k : Nat} (p : Nat) (h : Cap k z) : (txt z p).size ≤ k + p + 3 := by
  rw [← size_toList, txt_list, Num.decT_list]
  have h1 : (Lib.decDigits (z.natAbs / 10 ^ p)).length ≤ k + 1 := by
    have := digits_len (z := ((z.natAbs / 10 ^ p : Nat) : Int)) (k := k) (by unfold Cap at *; rw [Int.natAbs_natCast]; exact Nat.lt_of_le_of_lt (Nat.div_le_self z.natAbs (10 ^ p)) h)
    rwa [Int.natAbs_natCast] at this
  have h2 := Num.fixd_length p z.natAbs
  rw [List.length_append, List.length_append]
  have h3 : ((if z < 0 then [45] else []) : List UInt8).length ≤ 1 := by split <;> simp
  have h4 : ((if p = 0 then [] else 46 :: Num.fixd p z.natAbs) : List UInt8).length ≤ p + 1 := by
    split
    · simp
    · rw [List.length_cons, h2]; omega
  omega
theorem dot_iff : ∀ l : List UInt8, Num.dot l < l.length ↔ 46 ∈ l
  | [] => by simp [Num.dot]
  | b :: l => by
    have ih := dot_iff l
    by_cases h : b = 46
    · subst h; simp [Num.dot]
    · have e : Num.dot (b :: l) = Num.dot l + 1 := by simp [Num.dot, h]
      have h2 : (46 : UInt8) ≠ b := fun k => h k.symm
      rw [e, List.length_cons, List.mem_cons, ← ih]
      constructor
      · intro k; exact Or.inr (by omega)
      · rintro (k | k)
        · exact absurd k h2
        · omega
theorem dot_txt (z : Int) (p : Nat) : decide (Num.dot (txt z p).data.toList < (txt z p).data.toList.length) = decide (0 < p) := by
  rw [decide_eq_decide, dot_iff, txt_list]
  constructor
  · intro h
    rcases Nat.eq_zero_or_pos p with e | e
    · subst e; exact absurd h (Num.no_dot z)
    · exact e
  · intro h; exact Num.has_dot z p h
theorem cut_ret {s : ByteArray} {c : Bool} (hs : s.size ≤ 65536) (hc : decide (Num.dot s.data.toList < s.data.toList.length) = c) : Ret 43 #[.string s, .string ⟨#[46]⟩] (.tuple #[.string (befS s), .string (behS s), .bool c]) := fun W hG =>
  (dCut_any s W hG hs).mono fun _ _ ⟨_, h1, h2, h3, _⟩ => ⟨by rw [h1, h2, hc], h3⟩
theorem canon_ret {s : ByteArray} {z : Int} (hs : s.size ≤ 4294967295) (hz : vS s = z) : Ret 41 #[.string s] (.string (cS z)) := Ret.of_same fun W => canonical_v W hs hz rfl
theorem power_ten {p : Nat} (hp : p ≤ 12) : Ret 40 #[.string ⟨#[49, 48]⟩, .int .i64 (p : Int)] (two (cS ((10 : Int) ^ p)) 0) := fun W hG => by
  have h := power_any ⟨#[49, 48]⟩ p W hG (by decide) (by omega)
  rw [show vS ⟨#[49, 48]⟩ = 10 by decide +kernel] at h
  exact h
theorem vS_ten : vS ⟨#[49, 48]⟩ = 10 := by decide +kernel
theorem int_val {z : Int} {k : Nat} (h : Cap k z) (hk : k ≤ 99000) : Val (cS z) ⟨#[]⟩ (z, 1) :=
  ⟨by unfold raw; rw [vS_cS, vS_nil]; rfl, by have := cS_size h; omega, by decide⟩
theorem int_capP {z : Int} {k : Nat} (h : Cap k z) (hk : 1 ≤ k) : CapP k (z, 1) := ⟨h, Cap.one hk⟩
theorem cap_tens {p k : Nat} (h : p + 1 ≤ k) : Cap k ((10 : Int) ^ p) := (tens_cap p).mono h
/-- the value of a text, times the power of 10 -/
theorem text_value {z : Int} {p : Nat} : mulP (low (z, (10 : Int) ^ p)) ((10 : Int) ^ p, 1) = (z, 1) := units_is.mpr rfl
theorem cmp_same (x : Int × Int) : cmpP x x = 0 := (cmp3_zero _ _).mpr rfl
theorem frac_val {z : Int} {p k : Nat} (h : Cap k z) (hk : p + 1 ≤ k) : CapP k (low (z, (10 : Int) ^ p)) ∧ 0 < (low (z, (10 : Int) ^ p)).2 :=
  ⟨CapP.low ⟨h, cap_tens hk⟩ (Num.pow10 p), low_pos (x := (z, (10 : Int) ^ p)) (Num.pow10 p)⟩

end Go.Proofs.YtlonbfddhfacmaaGreatDoor
