/- The program's layer 3: read, Text, Scale, Format, Fraction, Parse: the walks. -/
import Derived.Test.YtlonbfddhfacmaaGreatDoorDB
import Derived.Test.YtlonbfddhfacmaaGreatDoorDC
namespace Go.Proofs.YtlonbfddhfacmaaGreatDoor
open Go.RowKit Fra

/-- the text ahead of the first point, and behind it -/
def befS (s : ByteArray) : ByteArray := ⟨(Num.bef s.data.toList).toArray⟩
def behS (s : ByteArray) : ByteArray := ⟨(Num.beh s.data.toList).toArray⟩
theorem befS_size (s : ByteArray) : (befS s).size + (behS s).size ≤ s.size := by
  have h := Num.beh_length s.data.toList
  rw [size_toList] at h
  rw [← size_toList (befS s), ← size_toList (behS s)]
  exact h
theorem behS_len (s : ByteArray) : (behS s).size = (Num.beh s.data.toList).length := by rw [← size_toList (behS s)]; rfl
theorem join_list (s : ByteArray) : (befS s ++ behS s).data.toList = Num.bef s.data.toList ++ Num.beh s.data.toList := by
  rw [ByteArray.data_append, Array.toList_append]; rfl
/-- the units that the program reads -/
def unitsS (s : ByteArray) : Int := Num.val (Num.bef s.data.toList ++ Num.beh s.data.toList)
theorem vS_join (s : ByteArray) : vS (befS s ++ behS s) = unitsS s := by unfold vS unitsS; rw [join_list]
theorem units_cap (s : ByteArray) : Cap s.size (unitsS s) := by
  have h := vS_lt (befS s ++ behS s)
  rw [vS_join] at h
  have h2 := befS_size s
  refine Cap.mono h ?_
  rw [ByteArray.size_append]
  exact h2
theorem digits_len {z : Int} {k : Nat} (h : Cap k z) : (Lib.decDigits z.natAbs).length ≤ k + 1 := by
  by_cases h0 : z.natAbs = 0
  · rw [h0, Num.decDigits_zero]
    show 1 ≤ k + 1
    omega
  · have e : Num.digs z.natAbs = Lib.decDigits z.natAbs := by unfold Num.digs; rw [if_neg h0]
    have h1 := cS_size (z := (z.natAbs : Int)) (k := k) (by unfold Cap at h; omega)
    have h2 : (cS (z.natAbs : Int)).data.toList = Num.digs z.natAbs := by
      unfold cS Num.canon
      rw [if_neg (by omega)]
      rfl
    rw [← size_toList, h2, e] at h1
    exact h1

theorem dCut_any (s : ByteArray) (w : World) (hG : Ground w) (hs : s.size ≤ 65536) :
    Calls Tryz.prog 43 #[.string s, .string ⟨#[46]⟩] w fun e w' => ∃ b, e = .returned (.tuple #[.string (befS s), .string (behS s), .bool b]) ∧ b = decide (Num.dot s.data.toList < s.data.toList.length) ∧ Below w.heap.size w w' ∧ Ground w' := by
  obtain ⟨m, hm⟩ := hG.max
  refine (Tryz.strings_Cut s ⟨#[46]⟩ m w (by omega) hm).mono ?_
  rintro _ _ ⟨rfl, n, rfl⟩
  obtain ⟨h1, h2, h3⟩ := Num.cut_dot s.data.toList
  refine ⟨(Lib.cut s.data.toList [46]).2.2, ?_, h3, below_drewN (Below.refl _ _) n, hG.tab, hG.max⟩
  unfold befS behS
  rw [← h1, ← h2]

/-- is it a decimal text? -/
def isDecS (s : ByteArray) : Bool := Num.isDec s.data.toList
def unitsD (s : ByteArray) : Int := Num.decU s.data.toList
def placesD (s : ByteArray) : Nat := Num.decP s.data.toList
/-- the text of units with places -/
def txt (z : Int) (p : Nat) : ByteArray := ⟨(Num.decT z p).toArray⟩
theorem good_text {s : ByteArray} (h : isDecS s = true) : txt (unitsS s) (behS s).size = s := by
  apply ByteArray.ext
  apply Array.toList_inj.1
  show Num.decT _ _ = _
  rw [behS_len]
  exact (Num.good_iff _).mpr h
theorem bad_text {s : ByteArray} (h : isDecS s = false) : txt (unitsS s) (behS s).size ≠ s := by
  intro e
  have e2 : Num.decT (unitsS s) (behS s).size = s.data.toList := congrArg (fun b : ByteArray => b.data.toList) e
  rw [behS_len] at e2
  have := (Num.good_iff _).mp e2
  unfold isDecS at h
  rw [this] at h
  simp at h
theorem unitsS_good {s : ByteArray} (h : isDecS s = true) : unitsS s = unitsD s := Num.val_units h
theorem behS_good (s : ByteArray) : (behS s).size = placesD s := by rw [behS_len, Num.beh_eq]; rfl

set_option maxHeartbeats 1000000 in
theorem dRead_long (s : ByteArray) (w : World) (hs : 65536 < s.size) :
    Calls Tryz.prog 61 #[.string s] w fun e w' => e = .returned (.tuple #[.string ⟨#[]⟩, .int .i64 0, .int .i64 4]) ∧ w = w' := by
  go_enter Tryz.func61, Tryz.ntmps61
  go_wp2_with fail
  go_ret3
  exact ⟨rfl, rfl⟩

set_option maxRecDepth 100000 in
set_option maxHeartbeats 2000000 in
theorem dRead_ok (s : ByteArray) (w : World) (hG : Ground w) (hs : s.size ≤ 65536) (hg : isDecS s = true) :
    Calls Tryz.prog 61 #[.string s] w fun e w' => e = .returned (.tuple #[.string (cS (unitsD s)), .int .i64 (placesD s : Int), .int .i64 0]) ∧ Below w.heap.size w w' := by
  have HT := Lib.hid (good_text hg)
  have HU := Lib.hid (unitsS_good hg)
  have HP := Lib.hid (behS_good s)
  have hsz := befS_size s
  have hb1 : ¬ 9223372036854775807 < (befS s).size + (behS s).size := by omega
  have hc := units_cap s
  have HC := Lib.hid (show (cS (unitsS s)).size ≤ 4294967295 by have := cS_size hc; omega)
  have HD := Lib.hid (show (Lib.decDigits (unitsS s).natAbs).length ≤ 100001 by have := digits_len hc; omega)
  have HV := Lib.hid (vS_join s)
  have HL := Lib.hid (show (befS s ++ behS s).size ≤ 4294967295 by rw [ByteArray.size_append]; omega)
  have HBS := Lib.hid (show (behS s).size ≤ 65536 by omega)
  obtain ⟨a, ha⟩ : ∃ a, a = befS s := ⟨_, rfl⟩
  obtain ⟨b, hb⟩ : ∃ b, b = behS s := ⟨_, rfl⟩
  rw [← ha, ← hb] at hb1
  rw [← hb] at HT HP HBS
  rw [← ha, ← hb] at HV HL
  have HAB := Lib.hid (And.intro ha hb)
  clear hg hsz hc ha hb
  go_enter Tryz.func61, Tryz.ntmps61
  go_wp2_with fail
  refine (dCut_any s w hG hs).mono ?_
  rintro _ w1 ⟨c, rfl, _, hB, hG1⟩
  rw [← HAB.out.1, ← HAB.out.2]
  go_wp2_with fail
  refine (canonical_v w1 HL.out HV.out rfl).mono ?_
  rintro _ _ ⟨rfl, rfl⟩
  go_wp2_with fail
  refine (dWrite_any (cS (unitsS s)) (unitsS s) b.size w1 HC.out (vS_cS _) HD.out HBS.out).mono ?_
  rintro _ w2 ⟨rfl, hB2⟩
  replace hB := hB.trans (hB2.mono hB.size)
  clear hB2
  rw [show (ByteArray.mk (Num.decT (unitsS s) b.size).toArray) = s from HT.out]
  go_wp2_with fail
  go_ret3
  exact ⟨by rw [← HU.out, ← HP.out]; rfl, hB⟩

set_option maxRecDepth 100000 in
set_option maxHeartbeats 2000000 in
theorem dRead_bad (s : ByteArray) (w : World) (hG : Ground w) (hs : s.size ≤ 65536) (hg : isDecS s = false) :
    Calls Tryz.prog 61 #[.string s] w fun e w' => e = .returned (.tuple #[.string ⟨#[]⟩, .int .i64 0, .int .i64 3]) ∧ Below w.heap.size w w' := by
  have HT := Lib.hid (bad_text hg)
  have hsz := befS_size s
  have hb1 : ¬ 9223372036854775807 < (befS s).size + (behS s).size := by omega
  have hc := units_cap s
  have HC := Lib.hid (show (cS (unitsS s)).size ≤ 4294967295 by have := cS_size hc; omega)
  have HD := Lib.hid (show (Lib.decDigits (unitsS s).natAbs).length ≤ 100001 by have := digits_len hc; omega)
  have HV := Lib.hid (vS_join s)
  have HL := Lib.hid (show (befS s ++ behS s).size ≤ 4294967295 by rw [ByteArray.size_append]; omega)
  have HBS := Lib.hid (show (behS s).size ≤ 65536 by omega)
  obtain ⟨a, ha⟩ : ∃ a, a = befS s := ⟨_, rfl⟩
  obtain ⟨b, hb⟩ : ∃ b, b = behS s := ⟨_, rfl⟩
  rw [← ha, ← hb] at hb1
  rw [← hb] at HT HBS
  rw [← ha, ← hb] at HV HL
  have HAB := Lib.hid (And.intro ha hb)
  clear hg hsz hc ha hb
  go_enter Tryz.func61, Tryz.ntmps61
  go_wp2_with fail
  refine (dCut_any s w hG hs).mono ?_
  rintro _ w1 ⟨c, rfl, _, hB, hG1⟩
  rw [← HAB.out.1, ← HAB.out.2]
  go_wp2_with fail
  refine (canonical_v w1 HL.out HV.out rfl).mono ?_
  rintro _ _ ⟨rfl, rfl⟩
  go_wp2_with fail
  refine (dWrite_any (cS (unitsS s)) (unitsS s) b.size w1 HC.out (vS_cS _) HD.out HBS.out).mono ?_
  rintro _ w2 ⟨rfl, hB2⟩
  replace hB := hB.trans (hB2.mono hB.size)
  clear hB2
  obtain ⟨t, ht⟩ : ∃ t, t = txt (unitsS s) b.size := ⟨_, rfl⟩
  have hne : (t.toList == s.toList) = false := by rw [ht]; exact eq_str _ _ HT.out
  rw [show (ByteArray.mk (Num.decT (unitsS s) b.size).toArray) = t from ht.symm]
  clear ht
  go_wp2_with fail
  go_ret3
  exact ⟨rfl, hB⟩

/-! ### Text, Scale, Format -/
theorem okP_iff {n : Int} : okP n = true ↔ 0 ≤ n ∧ n ≤ 12 := by unfold okP; exact decide_eq_true_iff
set_option maxHeartbeats 1000000 in
theorem dText_range (s : ByteArray) (n : Int) (w : World) (hn : okP n = false) :
    Calls Tryz.prog 21 #[.string s, .int .i64 n] w fun e w' => e = .returned (.tuple #[.string ⟨#[]⟩, .int .i64 2]) ∧ w = w' := by
  have HN := Lib.hid hn
  clear hn
  go_enter Tryz.func21, Tryz.ntmps21
  go_wp2_with fail
  refine (dPlaces_any n w).mono ?_
  rintro _ _ ⟨rfl, rfl⟩
  rw [HN.out]
  go_wp2_with fail
  go_ret2
  exact ⟨rfl, rfl⟩
set_option maxHeartbeats 1000000 in
theorem dText_v {s : ByteArray} {z : Int} {p : Nat} (w : World) (hs : s.size ≤ 100000) (hz : vS s = z) (hp : p ≤ 12) :
    Calls Tryz.prog 21 #[.string s, .int .i64 (p : Int)] w fun e w' => e = .returned (.tuple #[.string (txt z p), .int .i64 0]) ∧ Below w.heap.size w w' := by
  have HN := Lib.hid (okP_true (n := (p : Int)) (by omega) (by omega))
  have HD := Lib.hid (show (Lib.decDigits z.natAbs).length ≤ 100001 from digits_len (Cap.of hs hz))
  go_enter Tryz.func21, Tryz.ntmps21
  go_wp2_with fail
  refine (dPlaces_any p w).mono ?_
  rintro _ _ ⟨rfl, rfl⟩
  rw [HN.out]
  go_wp2_with fail
  refine (dWrite_any s z p w (by omega) hz HD.out (by omega)).mono ?_
  rintro _ w1 ⟨rfl, hB⟩
  go_wp2_with fail
  go_ret2
  exact ⟨rfl, hB⟩

set_option maxRecDepth 100000 in
set_option maxHeartbeats 1000000 in
theorem dScale_range (n d : ByteArray) (k m : Int) (w : World) (hn : okP k = false) :
    Calls Tryz.prog 15 #[.agg #[.string n, .string d], .int .i64 k, .int .i64 m] w fun e w' => e = .returned (.tuple #[.string ⟨#[]⟩, .int .i64 2]) ∧ Below w.heap.size w w' := by
  have HN := Lib.hid hn
  clear hn
  obtain ⟨W0, hW0⟩ : ∃ W0, W0 = w.alloc (.cells #[.string n, .string d] 24) := ⟨_, rfl⟩
  have hB0 : Below w.heap.size w W0 := by rw [hW0]; exact (Below.refl _ _).alloc (Nat.le_refl _) _
  go_enter Tryz.func15, Tryz.ntmps15
  go_wp2_with fail
  rw [← hW0]
  clear hW0
  refine (dPlaces_any k W0).mono ?_
  rintro _ _ ⟨rfl, rfl⟩
  rw [HN.out]
  go_wp2_with fail
  go_ret2
  exact ⟨rfl, hB0⟩

theorem tens_size (p : Nat) : (cS ((10 : Int) ^ p)).size ≤ p + 1 := by
  rw [cS_pow]
  show (49 :: List.replicate p (48 : UInt8)).toArray.size ≤ _
  simp
theorem tens_val {p : Nat} (hp : p ≤ 90000) : Val (cS ((10 : Int) ^ p)) ⟨#[]⟩ ((10 : Int) ^ p, 1) :=
  ⟨by unfold raw; rw [vS_cS, vS_nil]; rfl, by have := tens_size p; omega, by decide⟩
theorem tens_cap (p : Nat) : Cap (p + 1) ((10 : Int) ^ p) := by
  unfold Cap
  rw [Int.natAbs_pow]
  show 10 ^ p < 10 ^ (p + 1)
  exact Nat.pow_lt_pow_right (by decide) (by omega)
theorem tens_capP (p : Nat) : CapP (p + 1) ((10 : Int) ^ p, 1) := ⟨tens_cap p, Cap.one (by omega)⟩
/-- a number times a power of 10, as an argument -/
theorem scaled_val {x : Int × Int} {k : Nat} (hc : CapP k x) (hx : 0 < x.2) (hk : k ≤ 90000) (p : Nat) (hp : p ≤ 12) : Val (cS (mulP x ((10 : Int) ^ p, 1)).1) (cD (mulP x ((10 : Int) ^ p, 1)).2) (mulP x ((10 : Int) ^ p, 1)) :=
  Val.of (k := k + (p + 1)) (CapP.mul hc (tens_capP p) hx Int.one_pos) (mulP_pos (y := ((10 : Int) ^ p, 1)) hx Int.one_pos) (by omega)

/-- from whatever memory: the function returns this, and nothing that was there has changed -/
def Ret (f : FuncId) (args : Array Value) (v : Value) : Prop := ∀ W, Ground W → Calls Tryz.prog f args W fun r w' => r = .returned v ∧ Below W.heap.size W w'
theorem Ret.call {f : FuncId} {args : Array Value} {v : Value} (h : Ret f args v) (W : World) (hG : Ground W) : Calls Tryz.prog f args W fun r w' => r = .returned v ∧ Below W.heap.size W w' := h W hG
/-- a string and an error -/
abbrev two (u : ByteArray) (c : Int) : Value := .tuple #[.string u, .int .i64 c]

theorem round_ok {n d : ByteArray} {x : Int × Int} {m z : Int} (h : Val n d x) (h1 : 1 ≤ m) (h6 : m ≤ 6) (hz : rnd m x = z) : Ret 13 #[.agg #[.string n, .string d], .int .i64 m] (two (cS z) 0) :=
  fun W hG => dRound_v W hG h h1 h6 hz
theorem round_bad {n d : ByteArray} {x : Int × Int} {m : Int} (h : Val n d x) (hm : m < 1 ∨ 6 < m) : Ret 13 #[.agg #[.string n, .string d], .int .i64 m] (two ⟨#[]⟩ 7) :=
  fun W hG => dRound_none m W hG h hm
theorem text_ok {s : ByteArray} {z : Int} {p : Nat} (hs : s.size ≤ 100000) (hz : vS s = z) (hp : p ≤ 12) : Ret 21 #[.string s, .int .i64 (p : Int)] (two (txt z p) 0) :=
  fun W _ => dText_v W hs hz hp
theorem text_range (s : ByteArray) {n : Int} (hn : okP n = false) : Ret 21 #[.string s, .int .i64 n] (two ⟨#[]⟩ 2) :=
  fun W _ => (dText_range s n W hn).mono fun _ _ k => ⟨k.1, k.2 ▸ Below.refl _ _⟩
theorem scale_range (n d : ByteArray) {k : Int} (m : Int) (hn : okP k = false) : Ret 15 #[.agg #[.string n, .string d], .int .i64 k, .int .i64 m] (two ⟨#[]⟩ 2) :=
  fun W _ => dScale_range n d k m W hn

set_option maxRecDepth 100000 in
set_option maxHeartbeats 16000000 in
theorem scale_gen {fn fd : ByteArray} {x : Int × Int} {m c : Int} {u : ByteArray} {p : Nat} (h : Val fn fd x) (hp : p ≤ 12)
    (hR : Ret 13 #[.agg #[.string (cS (mulP x ((10 : Int) ^ p, 1)).1), .string (cD (mulP x ((10 : Int) ^ p, 1)).2)], .int .i64 m] (two u c)) (w : World) (hG : Ground w) :
    Calls Tryz.prog 15 #[.agg #[.string fn, .string fd], .int .i64 (p : Int), .int .i64 m] w fun e w' => e = .returned (two u c) ∧ Below w.heap.size w w' := by
  have HN := Lib.hid (okP_true (n := (p : Int)) (by omega) (by omega))
  have HTS := Lib.hid (show (cS ((10 : Int) ^ p)).size ≤ 100000 by have := tens_size p; omega)
  have HV := Lib.hid h
  have HTV := Lib.hid (tens_val (p := p) (by omega))
  have HR := Lib.hid hR
  clear hR h
  obtain ⟨W0, hW0⟩ : ∃ W0, W0 = w.alloc (.cells #[.string fn, .string fd] 24) := ⟨_, rfl⟩
  have hS : StL w W0 [(w.heap.size, fn, fd)] := by rw [hW0]; exact StL.one hG _ _
  go_enter Tryz.func15, Tryz.ntmps15
  go_upto_region 1 with fail
  rw [← hW0]
  clear hW0
  obtain ⟨fp0, _⟩ := hS.box
  obtain ⟨fx0, fy0, _, _⟩ := fp0.cells
  go_wp2_with fail
  clear fp0 fx0 fy0
  refine Calls.mono (dPlaces_any p W0) ?_
  rintro _ _ ⟨rfl, rfl⟩
  rw [HN.out]
  obtain ⟨fp0, _⟩ := hS.box
  obtain ⟨fx0, fy0, _, _⟩ := fp0.cells
  go_upto_region 3 with fail
  have HS := Lib.hid hS
  clear hS
  go_region_held3 (fun w' => w'.cell? ⟨w.heap.size, 0, none⟩ = some (.string fn) ∧ w'.cell? ⟨w.heap.size, 1, none⟩ = some (.string fd))
    (go_keep)
    (first
    | (go_at_call 54;
         (first
           | (with_reducible refine Calls.mono (dTen_any p _ (by omega)) ?_));
         (rintro e WX ⟨rfl, hB1⟩);
         (have HS2 : StL w WX [(w.heap.size, fn, fd)] := (by first | exact HS.out.next hB1 | exact HS.out.next1 hB1 | exact HS.out.nextD hB1));
         (replace HS := Lib.hid HS2);
         (clear hB1 HS2);
         (obtain ⟨fp0, _⟩ := HS.out.box);
         (obtain ⟨fx0, fy0, _, _⟩ := fp0.cells))
    | (go_at_call 31;
         (first
           | (with_reducible refine Calls.mono (fOf_v (p := (10 : Int) ^ p) _ (by first | exact HS.out.g | exact HS.out.drew.g | exact (HS.out.drewN _).g) HTS.out (vS_cS _)) ?_));
         (rintro e WX ⟨rfl, hB1⟩);
         (have HS2 : StL w WX [(w.heap.size, fn, fd)] := (by first | exact HS.out.next hB1 | exact HS.out.next1 hB1 | exact HS.out.nextD hB1));
         (replace HS := Lib.hid HS2);
         (clear hB1 HS2);
         (obtain ⟨fp0, _⟩ := HS.out.box);
         (obtain ⟨fx0, fy0, _, _⟩ := fp0.cells))
    | (go_at_call 42;
         (first
           | (with_reducible refine Calls.mono (fMul_v (z := mulP x ((10 : Int) ^ p, 1)) _ (by first | exact HS.out.g | exact HS.out.drew.g | exact (HS.out.drewN _).g) HV.out HTV.out rfl) ?_));
         (rintro e WX ⟨rfl, hB1⟩);
         (have HS2 : StL w WX [(w.heap.size, fn, fd)] := (by first | exact HS.out.next hB1 | exact HS.out.next1 hB1 | exact HS.out.nextD hB1));
         (replace HS := Lib.hid HS2);
         (clear hB1 HS2);
         (obtain ⟨fp0, _⟩ := HS.out.box);
         (obtain ⟨fx0, fy0, _, _⟩ := fp0.cells))
    | (go_at_call 13;
         (first
           | (with_reducible refine Calls.mono (Ret.call HR.out _ (by first | exact HS.out.g | exact HS.out.drew.g | exact (HS.out.drewN _).g)) ?_));
         (rintro e WX ⟨rfl, hB1⟩);
         (have HS2 : StL w WX [(w.heap.size, fn, fd)] := (by first | exact HS.out.next hB1 | exact HS.out.next1 hB1 | exact HS.out.nextD hB1));
         (replace HS := Lib.hid HS2);
         (clear hB1 HS2);
         (obtain ⟨fp0, _⟩ := HS.out.box);
         (obtain ⟨fx0, fy0, _, _⟩ := fp0.cells)))
  all_goals go_wp2_with fail
  all_goals go_ret2
  all_goals exact ⟨rfl, (by first | exact HS.out.below | exact HS.out.drew.below | exact (HS.out.drewN _).below)⟩

theorem scale_ok {n d : ByteArray} {x : Int × Int} {m z : Int} {k p : Nat} (h : Val n d x) (hc : CapP k x) (hk : k ≤ 90000) (hp : p ≤ 12) (h1 : 1 ≤ m) (h6 : m ≤ 6) (hz : rnd m (mulP x ((10 : Int) ^ p, 1)) = z) : Ret 15 #[.agg #[.string n, .string d], .int .i64 (p : Int), .int .i64 m] (two (cS z) 0) :=
  scale_gen h hp (round_ok (scaled_val hc h.pos hk p hp) h1 h6 hz)
theorem scale_bad {n d : ByteArray} {x : Int × Int} {m : Int} {k p : Nat} (h : Val n d x) (hc : CapP k x) (hk : k ≤ 90000) (hp : p ≤ 12) (hm : m < 1 ∨ 6 < m) : Ret 15 #[.agg #[.string n, .string d], .int .i64 (p : Int), .int .i64 m] (two ⟨#[]⟩ 7) :=
  scale_gen h hp (round_bad (scaled_val hc h.pos hk p hp) hm)

set_option maxRecDepth 100000 in
set_option maxHeartbeats 16000000 in
theorem format_gen {fn fd u t : ByteArray} {k m c : Int} (hS1 : Ret 15 #[.agg #[.string fn, .string fd], .int .i64 k, .int .i64 m] (two u 0)) (hT1 : Ret 21 #[.string u, .int .i64 k] (two t c)) (w : World) (hG : Ground w) :
    Calls Tryz.prog 17 #[.agg #[.string fn, .string fd], .int .i64 k, .int .i64 m] w fun e w' => e = .returned (two t c) ∧ Below w.heap.size w w' := by
  have HS1 := Lib.hid hS1
  clear hS1
  have HT1 := Lib.hid hT1
  clear hT1
  obtain ⟨W0, hW0⟩ : ∃ W0, W0 = w.alloc (.cells #[.string fn, .string fd] 24) := ⟨_, rfl⟩
  have hS : StL w W0 [(w.heap.size, fn, fd)] := by rw [hW0]; exact StL.one hG _ _
  go_enter Tryz.func17, Tryz.ntmps17
  go_upto_region 1 with fail
  rw [← hW0]
  clear hW0
  obtain ⟨fp0, _⟩ := hS.box
  obtain ⟨fx0, fy0, _, _⟩ := fp0.cells
  go_wp2_with fail
  clear fp0 fx0 fy0
  refine Calls.mono (Ret.call HS1.out _ hS.g) ?_
  rintro _ w1 ⟨rfl, hB⟩
  replace hS := hS.next hB
  clear hB
  obtain ⟨fp0, _⟩ := hS.box
  obtain ⟨fx0, fy0, _, _⟩ := fp0.cells
  go_wp2_with fail
  clear fp0 fx0 fy0
  refine Calls.mono (Ret.call HT1.out _ hS.g) ?_
  rintro _ w2 ⟨rfl, hB⟩
  replace hS := hS.next hB
  clear hB
  obtain ⟨fp0, _⟩ := hS.box
  obtain ⟨fx0, fy0, _, _⟩ := fp0.cells
  go_wp2_with fail
  go_ret2
  exact ⟨rfl, hS.below⟩

set_option maxRecDepth 100000 in
set_option maxHeartbeats 16000000 in
theorem format_err {fn fd u : ByteArray} {k m c : Int} (hS1 : Ret 15 #[.agg #[.string fn, .string fd], .int .i64 k, .int .i64 m] (two u c)) (hc : c ≠ 0) (w : World) (hG : Ground w) :
    Calls Tryz.prog 17 #[.agg #[.string fn, .string fd], .int .i64 k, .int .i64 m] w fun e w' => e = .returned (two ⟨#[]⟩ c) ∧ Below w.heap.size w w' := by
  have HS1 := Lib.hid hS1
  clear hS1
  have hc2 : (c == 0) = false := by simpa using hc
  clear hc
  obtain ⟨W0, hW0⟩ : ∃ W0, W0 = w.alloc (.cells #[.string fn, .string fd] 24) := ⟨_, rfl⟩
  have hS : StL w W0 [(w.heap.size, fn, fd)] := by rw [hW0]; exact StL.one hG _ _
  go_enter Tryz.func17, Tryz.ntmps17
  go_upto_region 1 with fail
  rw [← hW0]
  clear hW0
  obtain ⟨fp0, _⟩ := hS.box
  obtain ⟨fx0, fy0, _, _⟩ := fp0.cells
  go_wp2_with fail
  clear fp0 fx0 fy0
  refine Calls.mono (Ret.call HS1.out _ hS.g) ?_
  rintro _ w1 ⟨rfl, hB⟩
  replace hS := hS.next hB
  clear hB
  obtain ⟨fp0, _⟩ := hS.box
  obtain ⟨fx0, fy0, _, _⟩ := fp0.cells
  go_wp2_with fail
  go_ret2
  exact ⟨rfl, hS.below⟩

end Go.Proofs.YtlonbfddhfacmaaGreatDoor

/- The program's layer 3: Fraction, Parse: the walks. -/
namespace Go.Proofs.YtlonbfddhfacmaaGreatDoor
open Go.RowKit Fra

theorem Ret.of_same {f : FuncId} {args : Array Value} {v : Value} (h : ∀ W, Calls Tryz.prog f args W fun r w' => r = .returned v ∧ W = w') : Ret f args v :=
  fun W _ => (h W).mono fun _ _ k => ⟨k.1, k.2 ▸ Below.refl _ _⟩
/-- what read answers -/
abbrev three (u : ByteArray) (p c : Int) : Value := .tuple #[.string u, .int .i64 p, .int .i64 c]
theorem read_long {s : ByteArray} (hs : 65536 < s.size) : Ret 61 #[.string s] (three ⟨#[]⟩ 0 4) := Ret.of_same fun W => dRead_long s W hs
theorem read_bad {s : ByteArray} (hs : s.size ≤ 65536) (hg : isDecS s = false) : Ret 61 #[.string s] (three ⟨#[]⟩ 0 3) := fun W hG => dRead_bad s W hG hs hg
theorem read_ok {s : ByteArray} (hs : s.size ≤ 65536) (hg : isDecS s = true) : Ret 61 #[.string s] (three (cS (unitsD s)) (placesD s : Int) 0) := fun W hG => dRead_ok s W hG hs hg
theorem placesD_le (s : ByteArray) : placesD s ≤ s.size := by have h1 := behS_good s; have h2 := befS_size s; omega
theorem unitsD_cap {s : ByteArray} (hg : isDecS s = true) : Cap s.size (unitsD s) := by rw [← unitsS_good hg]; exact units_cap s

/-- a fraction and an error -/
abbrev fraE (u v : ByteArray) (c : Int) : Value := .tuple #[.agg #[.string u, .string v], .int .i64 c]

set_option maxRecDepth 100000 in
set_option maxHeartbeats 2000000 in
theorem fraction_err {s u : ByteArray} {p c : Int} (hr : Ret 61 #[.string s] (three u p c)) (hc : c ≠ 0) : Ret 25 #[.string s] (fraE ⟨#[]⟩ ⟨#[]⟩ c) := by
  intro w hG
  have HR := Lib.hid hr
  have hc2 : (c == 0) = false := by simpa using hc
  clear hr hc
  obtain ⟨W0, hW0⟩ : ∃ W0, W0 = w.alloc (.cells #[.string ⟨#[]⟩, .string ⟨#[]⟩] 24) := ⟨_, rfl⟩
  have hB0 : Below w.heap.size w W0 := by rw [hW0]; exact (Below.refl _ _).alloc (Nat.le_refl _) _
  have hP : PairAt W0 w.heap.size 24 ⟨#[]⟩ ⟨#[]⟩ := by rw [hW0]; exact PairAt.made _ _ _ _
  go_enter Tryz.func25, Tryz.ntmps25
  go_wp2_with fail
  rw [← hW0]
  clear hW0
  refine (HR.out W0 (hG.below hB0)).mono ?_
  rintro _ w1 ⟨rfl, hB1⟩
  have hP1 := hP.below hB1
  have hB := hB0.trans (hB1.mono hB0.size)
  clear hB1 hB0 hP
  obtain ⟨c4, c5, c6, c7⟩ := hP1.cells
  go_wp2_with fail
  obtain ⟨k0, k1, _, _⟩ := (hP1.put ⟨#[]⟩ ⟨#[]⟩).cells
  exact bodyPost_ret (v := fraE ⟨#[]⟩ ⟨#[]⟩ c) (by simp [results, Tryz.results25, go_sem, k0, k1]) rfl ⟨rfl, below_put hB (Nat.le_refl _) _ _⟩

theorem redS_pow (u : Int) (p : Nat) : redS u ((10 : Int) ^ p) = low (u, (10 : Int) ^ p) := redS_red (Num.pow10 p)

set_option maxRecDepth 100000 in
set_option maxHeartbeats 2000000 in
theorem fraction_ok {s : ByteArray} {x : Int × Int} (hs : s.size ≤ 65536) (hg : isDecS s = true) (hx : low (unitsD s, (10 : Int) ^ placesD s) = x) : Ret 25 #[.string s] (fraE (cS x.1) (cD x.2) 0) := by
  intro w hG
  have HR := Lib.hid (read_ok hs hg)
  have hp := placesD_le s
  have HS1 := Lib.hid (show (cS (unitsD s)).size ≤ 100000 by have := cS_size (unitsD_cap hg); omega)
  have HS2 := Lib.hid (show (cS ((10 : Int) ^ placesD s)).size ≤ 100000 by have := tens_size (placesD s); omega)
  have HX := Lib.hid (show redS (unitsD s) ((10 : Int) ^ placesD s) = x by rw [redS_pow]; exact hx)
  have HP := Lib.hid (show placesD s ≤ 1000000 by omega)
  have H0 := Lib.hid (show (10 : Int) ^ placesD s ≠ 0 by have := Num.pow10 (placesD s); omega)
  clear hg hp hx
  obtain ⟨W0, hW0⟩ : ∃ W0, W0 = w.alloc (.cells #[.string ⟨#[]⟩, .string ⟨#[]⟩] 24) := ⟨_, rfl⟩
  have hB0 : Below w.heap.size w W0 := by rw [hW0]; exact (Below.refl _ _).alloc (Nat.le_refl _) _
  have hP : PairAt W0 w.heap.size 24 ⟨#[]⟩ ⟨#[]⟩ := by rw [hW0]; exact PairAt.made _ _ _ _
  go_enter Tryz.func25, Tryz.ntmps25
  go_wp2_with fail
  rw [← hW0]
  clear hW0
  refine (HR.out W0 (hG.below hB0)).mono ?_
  rintro _ w1 ⟨rfl, hB1⟩
  have hP1 := hP.below hB1
  have hB := hB0.trans (hB1.mono hB0.size)
  clear hB1 hB0 hP
  go_wp2_with fail
  refine (dTen_any (placesD s) w1 HP.out).mono ?_
  rintro _ w2 ⟨rfl, hB1⟩
  have hP2 := hP1.below hB1
  replace hB := hB.trans (hB1.mono hB.size)
  clear hB1 hP1
  go_wp2_with fail
  refine (fNew_v w2 (hG.below hB) HS1.out HS2.out (vS_cS _) (vS_cS _) H0.out HX.out).mono ?_
  rintro _ w3 ⟨rfl, hB1⟩
  have hP3 := hP2.below hB1
  replace hB := hB.trans (hB1.mono hB.size)
  clear hB1 hP2
  obtain ⟨c4, c5, c6, c7⟩ := hP3.cells
  go_wp2_with fail
  obtain ⟨k0, k1, _, _⟩ := (hP3.put (cS x.1) (cD x.2)).cells
  exact bodyPost_ret (v := fraE (cS x.1) (cD x.2) 0) (by simp [results, Tryz.results25, go_sem, k0, k1]) rfl ⟨rfl, below_put hB (Nat.le_refl _) _ _⟩

theorem fraction_bad {s : ByteArray} (hs : s.size ≤ 65536) (hg : isDecS s = false) : Ret 25 #[.string s] (fraE ⟨#[]⟩ ⟨#[]⟩ 3) := fraction_err (read_bad hs hg) (by decide)
theorem fraction_long {s : ByteArray} (hs : 65536 < s.size) : Ret 25 #[.string s] (fraE ⟨#[]⟩ ⟨#[]⟩ 4) := fraction_err (read_long hs) (by decide)

/-! ### Parse -/
set_option maxHeartbeats 1000000 in
theorem dParse_range (s : ByteArray) {n : Int} (hn : okP n = false) : Ret 23 #[.string s, .int .i64 n] (two ⟨#[]⟩ 2) := by
  refine Ret.of_same fun w => ?_
  have HN := Lib.hid hn
  clear hn
  go_enter Tryz.func23, Tryz.ntmps23
  go_wp2_with fail
  refine (dPlaces_any n w).mono ?_
  rintro _ _ ⟨rfl, rfl⟩
  rw [HN.out]
  go_wp2_with fail
  go_ret2
  exact ⟨rfl, rfl⟩
set_option maxHeartbeats 1000000 in
theorem dParse_err {s u : ByteArray} {p n c : Int} (hn : okP n = true) (hr : Ret 61 #[.string s] (three u p c)) (hc : c ≠ 0) : Ret 23 #[.string s, .int .i64 n] (two ⟨#[]⟩ c) := by
  intro w hG
  have HN := Lib.hid hn
  have HR := Lib.hid hr
  have hc2 : (c == 0) = false := by simpa using hc
  clear hn hr hc
  go_enter Tryz.func23, Tryz.ntmps23
  go_wp2_with fail
  refine (dPlaces_any n w).mono ?_
  rintro _ _ ⟨rfl, rfl⟩
  rw [HN.out]
  go_wp2_with fail
  refine (HR.out w hG).mono ?_
  rintro _ w1 ⟨rfl, hB⟩
  go_wp2_with fail
  go_ret2
  exact ⟨rfl, hB⟩
theorem dParse_bad {s : ByteArray} {n : Int} (hn : okP n = true) (hs : s.size ≤ 65536) (hg : isDecS s = false) : Ret 23 #[.string s, .int .i64 n] (two ⟨#[]⟩ 3) := dParse_err hn (read_bad hs hg) (by decide)
theorem dParse_long {s : ByteArray} {n : Int} (hn : okP n = true) (hs : 65536 < s.size) : Ret 23 #[.string s, .int .i64 n] (two ⟨#[]⟩ 4) := dParse_err hn (read_long hs) (by decide)

/-- what Parse reckons with -/
structure ParseAt (s : ByteArray) (p : Nat) (a b q r : Int) : Prop where
  ea : unitsD s * (10 : Int) ^ p = a
  eb : (10 : Int) ^ placesD s = b
  eq : Int.fdiv a b = q
  er : Int.fmod a b = r
  s1 : (cS (unitsD s)).size ≤ 4294967295
  s2 : (cS ((10 : Int) ^ p)).size ≤ 4294967295
  s3 : (cS a).size ≤ 4294967295
  s4 : (cS b).size ≤ 4294967295
  p1 : p ≤ 1000000
  p2 : placesD s ≤ 1000000
  b0 : b ≠ 0
theorem ParseAt.of {s : ByteArray} {p : Nat} (hs : s.size ≤ 65536) (hg : isDecS s = true) (hp : p ≤ 12) :
    ParseAt s p (unitsD s * (10 : Int) ^ p) ((10 : Int) ^ placesD s) (Int.fdiv (unitsD s * (10 : Int) ^ p) ((10 : Int) ^ placesD s)) (Int.fmod (unitsD s * (10 : Int) ^ p) ((10 : Int) ^ placesD s)) := by
  have h1 := placesD_le s
  have h2 := tens_size (placesD s)
  have h3 := tens_size p
  have h4 := unitsD_cap hg
  have h5 := cS_size h4
  have h6 := cS_size (Cap.mul h4 (tens_cap p))
  have h7 := Num.pow10 (placesD s)
  exact ⟨rfl, rfl, rfl, rfl, by omega, by omega, by omega, by omega, by omega, by omega, by omega⟩

set_option maxRecDepth 100000 in
set_option maxHeartbeats 2000000 in
theorem dParse_ok {s : ByteArray} {p : Nat} {m : Int} (hs : s.size ≤ 65536) (hg : isDecS s = true) (hp : p ≤ 12) (hm : unitsD s * (10 : Int) ^ p = m * (10 : Int) ^ placesD s) : Ret 23 #[.string s, .int .i64 (p : Int)] (two (cS m) 0) := by
  intro w hG
  have HN := Lib.hid (okP_true (n := (p : Int)) (by omega) (by omega))
  have HR := Lib.hid (read_ok hs hg)
  have h0 := Num.pow10 (placesD s)
  have hA := ParseAt.of hs hg hp
  rw [show Int.fdiv (unitsD s * (10 : Int) ^ p) ((10 : Int) ^ placesD s) = m by rw [hm]; exact Int.mul_fdiv_cancel _ (by omega)] at hA
  rw [show Int.fmod (unitsD s * (10 : Int) ^ p) ((10 : Int) ^ placesD s) = 0 by rw [hm]; exact Int.mul_fmod_left _ _] at hA
  obtain ⟨a, ha⟩ : ∃ a, unitsD s * (10 : Int) ^ p = a := ⟨_, rfl⟩
  obtain ⟨b, hb⟩ : ∃ b, (10 : Int) ^ placesD s = b := ⟨_, rfl⟩
  rw [ha, hb] at hA
  have HA := Lib.hid hA
  clear hg hm h0 hA ha hb
  go_enter Tryz.func23, Tryz.ntmps23
  go_wp2_with fail
  refine (dPlaces_any p w).mono ?_
  rintro _ _ ⟨rfl, rfl⟩
  rw [HN.out]
  go_wp2_with fail
  refine (HR.out w hG).mono ?_
  rintro _ w1 ⟨rfl, hB⟩
  go_wp2_with fail
  refine (dTen_any p w1 HA.out.p1).mono ?_
  rintro _ w2 ⟨rfl, hB1⟩
  replace hB := hB.trans (hB1.mono hB.size)
  clear hB1
  go_wp2_with fail
  refine (mul_v w2 (hG.below hB) HA.out.s1 HA.out.s2 (vS_cS _) (vS_cS _) HA.out.ea).mono ?_
  rintro _ w3 ⟨rfl, hB1⟩
  replace hB := hB.trans (hB1.mono hB.size)
  clear hB1
  go_wp2_with fail
  refine (dTen_any (placesD s) w3 HA.out.p2).mono ?_
  rintro _ w4 ⟨rfl, hB1⟩
  replace hB := hB.trans (hB1.mono hB.size)
  clear hB1
  rw [HA.out.eb]
  go_wp2_with fail
  refine (div_v w4 (hG.below hB) HA.out.s3 HA.out.s4 (vS_cS _) (vS_cS _) HA.out.b0 HA.out.eq HA.out.er).mono ?_
  rintro _ w5 ⟨rfl, hB1⟩
  replace hB := hB.trans (hB1.mono hB.size)
  clear hB1
  rw [cS_zero]
  go_wp2_with fail
  go_ret2
  exact ⟨rfl, hB⟩

set_option maxRecDepth 100000 in
set_option maxHeartbeats 2000000 in
theorem dParse_inexact {s : ByteArray} {p : Nat} (hs : s.size ≤ 65536) (hg : isDecS s = true) (hp : p ≤ 12) (hm : Int.fmod (unitsD s * (10 : Int) ^ p) ((10 : Int) ^ placesD s) ≠ 0) : Ret 23 #[.string s, .int .i64 (p : Int)] (two ⟨#[]⟩ 22) := by
  intro w hG
  have HN := Lib.hid (okP_true (n := (p : Int)) (by omega) (by omega))
  have HR := Lib.hid (read_ok hs hg)
  have hA := ParseAt.of hs hg hp
  obtain ⟨a, ha⟩ : ∃ a, unitsD s * (10 : Int) ^ p = a := ⟨_, rfl⟩
  obtain ⟨b, hb⟩ : ∃ b, (10 : Int) ^ placesD s = b := ⟨_, rfl⟩
  rw [ha, hb] at hA hm
  obtain ⟨r, hr⟩ : ∃ r, Int.fmod a b = r := ⟨_, rfl⟩
  rw [hr] at hA hm
  have hne : ((cS r).toList.isEmpty) = false := by rw [eq_nil]; exact decide_eq_false hm
  obtain ⟨sr, hsr⟩ : ∃ sr, sr = cS r := ⟨_, rfl⟩
  have HSR := Lib.hid hsr
  rw [← hsr] at hne
  have HA := Lib.hid hA
  clear hg hm hA ha hb hr hsr
  go_enter Tryz.func23, Tryz.ntmps23
  go_wp2_with fail
  refine (dPlaces_any p w).mono ?_
  rintro _ _ ⟨rfl, rfl⟩
  rw [HN.out]
  go_wp2_with fail
  refine (HR.out w hG).mono ?_
  rintro _ w1 ⟨rfl, hB⟩
  go_wp2_with fail
  refine (dTen_any p w1 HA.out.p1).mono ?_
  rintro _ w2 ⟨rfl, hB1⟩
  replace hB := hB.trans (hB1.mono hB.size)
  clear hB1
  go_wp2_with fail
  refine (mul_v w2 (hG.below hB) HA.out.s1 HA.out.s2 (vS_cS _) (vS_cS _) HA.out.ea).mono ?_
  rintro _ w3 ⟨rfl, hB1⟩
  replace hB := hB.trans (hB1.mono hB.size)
  clear hB1
  go_wp2_with fail
  refine (dTen_any (placesD s) w3 HA.out.p2).mono ?_
  rintro _ w4 ⟨rfl, hB1⟩
  replace hB := hB.trans (hB1.mono hB.size)
  clear hB1
  rw [HA.out.eb]
  go_wp2_with fail
  refine (div_v w4 (hG.below hB) HA.out.s3 HA.out.s4 (vS_cS _) (vS_cS _) HA.out.b0 HA.out.eq HA.out.er).mono ?_
  rintro _ w5 ⟨rfl, hB1⟩
  replace hB := hB.trans (hB1.mono hB.size)
  clear hB1
  rw [← HSR.out]
  go_wp2_with fail
  go_ret2
  exact ⟨rfl, hB⟩

end Go.Proofs.YtlonbfddhfacmaaGreatDoor

/- The program's layer 3: remove, Finite: the walks. -/
namespace Go.Proofs.YtlonbfddhfacmaaGreatDoor
open Go.RowKit Fra

theorem nat_fdiv (a b : Nat) : Int.fdiv (a : Int) (b : Int) = ((a / b : Nat) : Int) := by
  rw [Int.fdiv_eq_ediv_of_nonneg _ (by omega)]; rfl
theorem nat_fmod (a b : Nat) : Int.fmod (a : Int) (b : Int) = ((a % b : Nat) : Int) := by
  rw [Int.fmod_eq_emod_of_nonneg _ (by omega)]; rfl

/-- two numbers, of k digits and of twice as many -/
structure RemAt (k f d : Nat) : Prop where
  f2 : 2 ≤ f
  d0 : 0 < d
  cf : f < 10 ^ (k + k)
  cd : d < 10 ^ k
  k1 : k ≤ 200000
theorem RemAt.s1 {k f d : Nat} (h : RemAt k f d) : (cS (f : Int)).size ≤ 4294967295 := by
  have h1 := h.cf; have h2 := h.k1
  have := cS_size (z := (f : Int)) (k := k + k) (by omega)
  omega
theorem RemAt.s2 {k f d : Nat} (h : RemAt k f d) : (cS (d : Int)).size ≤ 4294967295 := by
  have h1 := h.cd; have h2 := h.k1
  have := cS_size (z := (d : Int)) (k := k) (by omega)
  omega
theorem RemAt.next {k f d : Nat} (h : RemAt k f d) (h0 : d % f = 0) : RemAt k (f * f) (d / f) := by
  have h2 := h.f2
  have hfd : f ≤ d := Nat.le_of_dvd h.d0 (Nat.dvd_of_mod_eq_zero h0)
  have hf : f < 10 ^ k := Nat.lt_of_le_of_lt hfd h.cd
  refine ⟨?_, Nat.div_pos hfd (by omega), ?_, Nat.lt_of_le_of_lt (Nat.div_le_self _ _) h.cd, h.k1⟩
  · have := Nat.mul_le_mul h2 h2; omega
  · rw [Nat.pow_add]; exact Nat.mul_lt_mul'' hf hf
theorem RemAt.rest {k f d : Nat} (h : RemAt k f d) : RemAt k f (Num.tm (f * f) d).2 :=
  ⟨h.f2, Num.tm_pos h.d0, h.cf, Nat.lt_of_le_of_lt (Num.tm_le (by have := Nat.mul_le_mul h.f2 h.f2; omega)) h.cd, h.k1⟩
theorem RemAt.few {k f d : Nat} (h : RemAt k f d) : (Num.tm f d).1 < 4 * 200000 := by
  have := Num.tm_few h.f2 h.d0 h.cd
  have := h.k1
  omega

def RemPost (w : World) (f d : Nat) (e : Ending) (w' : World) : Prop := e = .returned (.tuple #[.int .i64 ((Num.tm f d).1 : Nat), .string (cS ((Num.tm f d).2 : Nat))]) ∧ Below w.heap.size w w'

set_option maxRecDepth 100000 in
set_option maxHeartbeats 2000000 in
theorem dRemove_step (k f d : Nat) (w : World) (hG : Ground w) (h : RemAt k f d)
    (ih : d % f = 0 → ∀ W, Ground W → Calls Tryz.prog 68 #[.string (cS ((f * f : Nat) : Int)), .string (cS ((d / f : Nat) : Int))] W (RemPost W (f * f) (d / f))) :
    Calls Tryz.prog 68 #[.string (cS (f : Int)), .string (cS (d : Int))] w (RemPost w f d) := by
  have hf2 := h.f2
  have H := Lib.hid h
  have HD := Lib.hid (show ∀ W, Ground W → Calls Tryz.prog 49 #[.string (cS (d : Int)), .string (cS (f : Int))] W fun e w' => e = .returned (.tuple #[.string (cS ((d / f : Nat) : Int)), .string (cS ((d % f : Nat) : Int)), .int .i64 0]) ∧ Below W.heap.size W w' from
    fun W hW => div_v W hW h.s2 h.s1 (vS_cS _) (vS_cS _) (by omega) (nat_fdiv _ _) (nat_fmod _ _))
  by_cases h0 : d % f = 0
  · have h1 := h.next h0
    have hr := h1.rest
    have hsq := Num.tm_square hf2 h.d0 h0
    have hfew := h1.few
    have HI := Lib.hid (ih h0)
    have HM := Lib.hid (show ∀ W, Ground W → Calls Tryz.prog 44 #[.string (cS (f : Int)), .string (cS (f : Int))] W (StrPost W ((f * f : Nat) : Int)) from
      fun W hW => mul_v W hW h.s1 h.s1 (vS_cS _) (vS_cS _) (Int.natCast_mul f f).symm)
    obtain ⟨p, hp⟩ : ∃ p, (Num.tm (f * f) (d / f)).1 = p := ⟨_, rfl⟩
    obtain ⟨l, hl⟩ : ∃ l, (Num.tm (f * f) (d / f)).2 = l := ⟨_, rfl⟩
    rw [hp, hl] at hsq
    rw [hp] at hfew
    have HP := Lib.hid hp
    have HLL := Lib.hid hl
    have hl0 : (Num.tm (f * f) (d / f)).2 < 10 ^ k := by
      exact Nat.lt_of_le_of_lt (Num.tm_le (by have := Nat.mul_le_mul hf2 hf2; omega)) h1.cd
    rw [hl] at hl0
    have HE := Lib.hid (show ∀ W, Ground W → Calls Tryz.prog 49 #[.string (cS (l : Int)), .string (cS (f : Int))] W fun e w' => e = .returned (.tuple #[.string (cS ((l / f : Nat) : Int)), .string (cS ((l % f : Nat) : Int)), .int .i64 0]) ∧ Below W.heap.size W w' from
      fun W hW => div_v W hW (by have := cS_size (z := (l : Int)) (k := k) (by omega); have := h.k1; omega) h.s1 (vS_cS _) (vS_cS _) (by omega) (nat_fdiv _ _) (nat_fmod _ _))
    have HZ := Lib.hid (show cS ((d % f : Nat) : Int) = ⟨#[]⟩ by rw [h0]; exact cS_zero)
    have w1 : IntKind.i64.wrap (2 * (p : Int)) = 2 * (p : Int) := IntWalk.i64_in _ (by omega)
    have w2 : IntKind.i64.wrap (2 * (p : Int) + 1) = 2 * (p : Int) + 1 := IntWalk.i64_in _ (by omega)
    have w3 : IntKind.i64.wrap (2 * (p : Int) + 2) = 2 * (p : Int) + 2 := IntWalk.i64_in _ (by omega)
    clear ih hr hp hl hl0 h1
    by_cases hlf : l % f = 0
    · have HY := Lib.hid (show cS ((l % f : Nat) : Int) = ⟨#[]⟩ by rw [hlf]; exact cS_zero)
      have HT := Lib.hid (hsq.1 hlf)
      clear hsq hlf h0
      go_enter Tryz.func68, Tryz.ntmps68
      go_wp2_with fail
      refine (HD.out w hG).mono ?_
      rintro _ w1 ⟨rfl, hB⟩
      rw [HZ.out]
      go_wp2_with fail
      refine (HM.out w1 (hG.below hB)).mono ?_
      rintro _ w2 ⟨rfl, hB1⟩
      replace hB := hB.trans (hB1.mono hB.size)
      clear hB1
      go_wp2_with fail
      refine (HI.out w2 (hG.below hB)).mono ?_
      rintro _ w3 ⟨rfl, hB1⟩
      replace hB := hB.trans (hB1.mono hB.size)
      clear hB1
      rw [HP.out, HLL.out]
      go_wp2_with fail
      refine (HE.out w3 (hG.below hB)).mono ?_
      rintro _ w4 ⟨rfl, hB1⟩
      replace hB := hB.trans (hB1.mono hB.size)
      clear hB1
      rw [HY.out]
      go_wp2_with fail
      go_ret2
      exact ⟨by rw [HT.out]; rfl, hB⟩
    · have hne : ((cS ((l % f : Nat) : Int)).toList.isEmpty) = false := by rw [eq_nil]; exact decide_eq_false (by omega)
      obtain ⟨sr, hsr⟩ : ∃ sr, sr = cS ((l % f : Nat) : Int) := ⟨_, rfl⟩
      have HSR := Lib.hid hsr
      rw [← hsr] at hne
      have HT := Lib.hid (hsq.2 hlf)
      clear hsq hlf h0 hsr
      go_enter Tryz.func68, Tryz.ntmps68
      go_wp2_with fail
      refine (HD.out w hG).mono ?_
      rintro _ w1 ⟨rfl, hB⟩
      rw [HZ.out]
      go_wp2_with fail
      refine (HM.out w1 (hG.below hB)).mono ?_
      rintro _ w2 ⟨rfl, hB1⟩
      replace hB := hB.trans (hB1.mono hB.size)
      clear hB1
      go_wp2_with fail
      refine (HI.out w2 (hG.below hB)).mono ?_
      rintro _ w3 ⟨rfl, hB1⟩
      replace hB := hB.trans (hB1.mono hB.size)
      clear hB1
      rw [HP.out, HLL.out]
      go_wp2_with fail
      refine (HE.out w3 (hG.below hB)).mono ?_
      rintro _ w4 ⟨rfl, hB1⟩
      replace hB := hB.trans (hB1.mono hB.size)
      clear hB1
      rw [← HSR.out]
      go_wp2_with fail
      go_ret2
      exact ⟨by rw [HT.out]; rfl, hB⟩
  · have hne : ((cS ((d % f : Nat) : Int)).toList.isEmpty) = false := by rw [eq_nil]; exact decide_eq_false (by omega)
    obtain ⟨sr, hsr⟩ : ∃ sr, sr = cS ((d % f : Nat) : Int) := ⟨_, rfl⟩
    have HSR := Lib.hid hsr
    rw [← hsr] at hne
    have HT := Lib.hid (Num.tm_none hf2 h.d0 h0)
    clear ih h0 hsr
    go_enter Tryz.func68, Tryz.ntmps68
    go_wp2_with fail
    refine (HD.out w hG).mono ?_
    rintro _ w1 ⟨rfl, hB⟩
    rw [← HSR.out]
    go_wp2_with fail
    go_ret2
    exact ⟨by rw [HT.out]; rfl, hB⟩

theorem dRemove_any (k : Nat) : ∀ (N f d : Nat), d ≤ N → RemAt k f d → ∀ W, Ground W → Calls Tryz.prog 68 #[.string (cS (f : Int)), .string (cS (d : Int))] W (RemPost W f d)
  | 0, f, d, hN, h, _, _ => by have := h.d0; omega
  | N + 1, f, d, hN, h, W, hG => dRemove_step k f d W hG h fun h0 V hV =>
      dRemove_any k N (f * f) (d / f) (by have := Nat.div_lt_self h.d0 (show 1 < f from h.f2); omega) (h.next h0) V hV

theorem RemAt.of {k f D : Nat} (h : Cap k (D : Int)) (h0 : 0 < D) (hf : 2 ≤ f) (hf9 : f ≤ 9) (h1 : 1 ≤ k) (hk : k ≤ 200000) : RemAt k f D := by
  refine ⟨hf, h0, ?_, by unfold Cap at h; omega, hk⟩
  have h2 : 10 ^ 1 ≤ 10 ^ (k + k) := Nat.pow_le_pow_right (by decide) (by omega)
  omega
/-! ### Finite -/
/-- the answer of Finite -/
def finV (x : Int × Int) : Value := match Num.fin (low x).2.toNat with
  | some p => .tuple #[.int .i64 (p : Nat), .bool true]
  | none => .tuple #[.int .i64 0, .bool false]

set_option maxRecDepth 100000 in
set_option maxHeartbeats 2000000 in
theorem finite_any {n d : ByteArray} {x : Int × Int} (h : Val n d x) : Ret 27 #[.agg #[.string n, .string d]] (finV x) := by
  intro w hG
  have hx := h.pos
  obtain ⟨k, hk⟩ : ∃ k, k = 100000 := ⟨_, rfl⟩
  have hc : CapP k x := by rw [← h.1]; exact CapP.of_raw (by omega) (by have := le_k h.2.1; omega) (by have := le_k h.2.2; omega)
  have hl := (CapP.low hc hx).2
  have hp := low_pos hx
  obtain ⟨D, hD⟩ : ∃ D, D = (low x).2.toNat := ⟨_, rfl⟩
  have hDi : (low x).2 = (D : Int) := by omega
  have r2 : RemAt k 2 D := RemAt.of (by rw [← hDi]; exact hl) (by omega) (by decide) (by decide) (by omega) (by omega)
  obtain ⟨a, ha⟩ : ∃ a, (Num.tm 2 D).1 = a := ⟨_, rfl⟩
  obtain ⟨E, hE⟩ : ∃ E, (Num.tm 2 D).2 = E := ⟨_, rfl⟩
  have hE1 : E ≤ D := by rw [← hE]; exact Num.tm_le (by decide)
  have hE0 : 0 < E := by rw [← hE]; exact Num.tm_pos r2.d0
  have r5 : RemAt k 5 E := RemAt.of (by have := r2.cd; unfold Cap; omega) hE0 (by decide) (by decide) (by omega) (by omega)
  have f2 := r2.few
  have f5 := r5.few
  obtain ⟨b, hb⟩ : ∃ b, (Num.tm 5 E).1 = b := ⟨_, rfl⟩
  obtain ⟨R, hR⟩ : ∃ R, (Num.tm 5 E).2 = R := ⟨_, rfl⟩
  rw [ha] at f2
  rw [hb] at f5
  have HV := Lib.hid h
  have HDI := Lib.hid hDi
  have H2 := Lib.hid (show ∀ W, Ground W → Calls Tryz.prog 68 #[.string ⟨#[50]⟩, .string (cS (D : Int))] W fun e w' => e = .returned (.tuple #[.int .i64 (a : Int), .string (cS (E : Int))]) ∧ Below W.heap.size W w' from fun W hW => by
    have := dRemove_any k D 2 D (Nat.le_refl _) r2 W hW
    unfold RemPost at this
    rwa [ha, hE, show cS ((2 : Nat) : Int) = ⟨#[50]⟩ by decide +kernel] at this)
  have H5 := Lib.hid (show ∀ W, Ground W → Calls Tryz.prog 68 #[.string ⟨#[53]⟩, .string (cS (E : Int))] W fun e w' => e = .returned (.tuple #[.int .i64 (b : Int), .string (cS (R : Int))]) ∧ Below W.heap.size W w' from fun W hW => by
    have := dRemove_any k E 5 E (Nat.le_refl _) r5 W hW
    unfold RemPost at this
    rwa [hb, hR, show cS ((5 : Nat) : Int) = ⟨#[53]⟩ by decide +kernel] at this)
  have hfin : Num.fin D = if R = 1 then some (max a b) else none := by rw [Num.fin_tm, hE, ha, hb, hR]
  have hfv : finV x = if R = 1 then .tuple #[.int .i64 ((max a b : Nat) : Int), .bool true] else .tuple #[.int .i64 0, .bool false] := by
    unfold finV
    rw [← hD, hfin]
    by_cases h1 : R = 1
    · rw [if_pos h1, if_pos h1]
    · rw [if_neg h1, if_neg h1]
  obtain ⟨W0, hW0⟩ : ∃ W0, W0 = w.alloc (.cells #[.string n, .string d] 24) := ⟨_, rfl⟩
  have hB0 : Below w.heap.size w W0 := by rw [hW0]; exact (Below.refl _ _).alloc (Nat.le_refl _) _
  have hmx : max (a : Int) (b : Int) = ((max a b : Nat) : Int) := by omega
  have HMX := Lib.hid hmx
  clear hx hc hl hp hD hDi hk r2 r5 ha hE hb hR hE1 hE0 hfin h hmx
  by_cases h1 : R = 1
  · rw [if_pos h1] at hfv
    have HF := Lib.hid hfv
    have HR := Lib.hid (show cS (R : Int) = ⟨#[49]⟩ by rw [h1]; exact cS_one)
    clear hfv h1
    go_enter Tryz.func27, Tryz.ntmps27
    go_wp2_with fail
    rw [← hW0]
    clear hW0
    refine (fParts_v W0 (hG.below hB0) HV.out rfl).mono ?_
    rintro _ w1 ⟨rfl, hB⟩
    replace hB := hB0.trans (hB.mono hB0.size)
    clear hB0
    rw [HDI.out]
    go_wp2_with fail
    refine (H2.out w1 (hG.below hB)).mono ?_
    rintro _ w2 ⟨rfl, hB1⟩
    replace hB := hB.trans (hB1.mono hB.size)
    clear hB1
    go_wp2_with fail
    refine (H5.out w2 (hG.below hB)).mono ?_
    rintro _ w3 ⟨rfl, hB1⟩
    replace hB := hB.trans (hB1.mono hB.size)
    clear hB1
    rw [HR.out]
    go_wp2_with fail
    go_ret2
    exact ⟨by rw [HF.out, ← HMX.out]; rfl, hB⟩
  · rw [if_neg h1] at hfv
    have HF := Lib.hid hfv
    have hne : ((cS (R : Int)).toList == [49]) = false := by rw [eq_one]; exact decide_eq_false (by omega)
    obtain ⟨sr, hsr⟩ : ∃ sr, sr = cS (R : Int) := ⟨_, rfl⟩
    have HSR := Lib.hid hsr
    rw [← hsr] at hne
    clear hfv h1 hsr
    go_enter Tryz.func27, Tryz.ntmps27
    go_wp2_with fail
    rw [← hW0]
    clear hW0
    refine (fParts_v W0 (hG.below hB0) HV.out rfl).mono ?_
    rintro _ w1 ⟨rfl, hB⟩
    replace hB := hB0.trans (hB.mono hB0.size)
    clear hB0
    rw [HDI.out]
    go_wp2_with fail
    refine (H2.out w1 (hG.below hB)).mono ?_
    rintro _ w2 ⟨rfl, hB1⟩
    replace hB := hB.trans (hB1.mono hB.size)
    clear hB1
    go_wp2_with fail
    refine (H5.out w2 (hG.below hB)).mono ?_
    rintro _ w3 ⟨rfl, hB1⟩
    replace hB := hB.trans (hB1.mono hB.size)
    clear hB1
    rw [← HSR.out]
    go_wp2_with fail
    go_ret2
    exact ⟨by rw [HF.out]; rfl, hB⟩

end Go.Proofs.YtlonbfddhfacmaaGreatDoor
