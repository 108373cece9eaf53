/- Plain mathematics of layer 4: a common denominator; fractions that add up to 1; the same proportions. -/
import Derived.Test.YthhihdihkddakaaGreatDoorEA
import Derived.Test.YthhihdihkddakaaGreatDoorAE
namespace Go.Proofs.YthhihdihkddakaaGreatDoor.Num

/-- the least common multiple of the first k denominators, as the program makes it -/
def lcmD (de : Nat → Nat) : Nat → Nat
  | 0 => 1
  | k + 1 => lcmD de k * (de k / Nat.gcd (de k) (lcmD de k))
theorem lcmD_succ (de : Nat → Nat) (k : Nat) : lcmD de (k + 1) = Nat.lcm (lcmD de k) (de k) := by
  show lcmD de k * (de k / Nat.gcd (de k) (lcmD de k)) = _
  unfold Nat.lcm
  rw [Nat.gcd_comm (de k), Nat.mul_div_assoc _ (Nat.gcd_dvd_right _ _)]
theorem lcmD_pos {de : Nat → Nat} : ∀ {k : Nat}, (∀ i, i < k → 0 < de i) → 0 < lcmD de k
  | 0, _ => Nat.one_pos
  | k + 1, h => by rw [lcmD_succ]; exact Nat.lcm_pos (lcmD_pos fun i hi => h i (by omega)) (h k (by omega))
theorem dvd_lcmD {de : Nat → Nat} : ∀ {k i : Nat}, i < k → de i ∣ lcmD de k
  | k + 1, i, h => by
    rw [lcmD_succ]
    by_cases e : i = k
    · subst e; exact Nat.dvd_lcm_right _ _
    · exact Nat.dvd_trans (dvd_lcmD (show i < k by omega)) (Nat.dvd_lcm_left _ _)
theorem lcmD_dvd {de : Nat → Nat} {X : Nat} : ∀ {k : Nat}, (∀ i, i < k → de i ∣ X) → lcmD de k ∣ X
  | 0, _ => Nat.one_dvd _
  | k + 1, h => by rw [lcmD_succ]; exact Nat.lcm_dvd (lcmD_dvd fun i hi => h i (by omega)) (h k (by omega))
theorem lcmD_le {de : Nat → Nat} {B : Nat} : ∀ {k : Nat}, (∀ i, i < k → 0 < de i ∧ de i < B) → lcmD de k ≤ B ^ k
  | 0, _ => by simp [lcmD]
  | k + 1, h => by
    have h1 := lcmD_le (de := de) (B := B) (k := k) (fun i hi => h i (by omega))
    have h2 := h k (by omega)
    show lcmD de k * (de k / Nat.gcd (de k) (lcmD de k)) ≤ _
    rw [Nat.pow_succ]
    exact Nat.mul_le_mul h1 (Nat.le_trans (Nat.div_le_self _ _) (by omega))
/-- the numerator over M -/
def numW (nu de : Nat → Nat) (M i : Nat) : Nat := nu i * (M / de i)
theorem numW_eq {nu de : Nat → Nat} {M i : Nat} (h : de i ∣ M) : numW nu de M i * de i = nu i * M := by
  unfold numW
  rw [Nat.mul_assoc, Nat.div_mul_cancel h]
theorem sumN_zero {f : Nat → Nat} : ∀ {n : Nat}, sumN f n = 0 → ∀ i, i < n → f i = 0
  | n + 1, h, i, hi => by
    simp only [sumN] at h
    by_cases e : i = n
    · subst e; omega
    · exact sumN_zero (n := n) (by omega) i (by omega)

end Go.Proofs.YthhihdihkddakaaGreatDoor.Num

/- allocate.Ideal: the walk. -/
namespace Go.Proofs.YthhihdihkddakaaGreatDoor
open Go.RowKit Fra

/-- rows of n fractions: cell i * 2 and the next -/
abbrev pairC (u v : Nat → ByteArray) : Nat → Value := fun i => .string (if i % 2 = 0 then u (i / 2) else v (i / 2))
theorem pairC_set {n : Nat} (u v : Nat → ByteArray) (k : Nat) (x y : ByteArray) (i : Nat) (_ : i < n * 2) : pairC (upd u k x) (upd v k y) i = upd (upd (pairC u v) (k * 2) (.string x)) (k * 2 + 1) (.string y) i := by
  unfold pairC upd
  by_cases h : i = k * 2 + 1
  · rw [if_pos h, if_neg (by omega), if_pos (by omega)]
  · rw [if_neg h]
    by_cases g : i = k * 2
    · rw [if_pos g, if_pos (by omega), if_pos (by omega)]
    · rw [if_neg g, if_neg (show ¬ i / 2 = k by omega), if_neg (show ¬ i / 2 = k by omega)]
theorem RowC.rf {w : World} {b : Nat} {t : TypeId} {n : Nat} {u v : Nat → ByteArray} (h : RowC w b t (n * 2) (pairC u v)) : Rf w (some ⟨b, 0, none⟩) n u v := h.rc
theorem RowC.made2 (w : World) (t : TypeId) (n : Nat) : RowC (w.alloc (.cells (madeCells #[.string ⟨#[]⟩, .string ⟨#[]⟩] (n * 2)) t)) w.heap.size t (n * 2) (pairC (fun _ => ⟨#[]⟩) fun _ => ⟨#[]⟩) := by
  unfold RowC
  rw [heap_alloc_new]
  have : madeCells #[.string ⟨#[]⟩, .string ⟨#[]⟩] (n * 2) = ((List.range (n * 2)).map (pairC (fun _ => ⟨#[]⟩) fun _ => ⟨#[]⟩)).toArray := by
    apply Array.ext
    · simp [madeCells]
    · intro i h1 h2
      simp only [madeCells, Array.getElem_map, Array.getElem_range, List.getElem_toArray, List.getElem_map, List.getElem_range]
      unfold pairC
      rcases Nat.mod_two_eq_zero_or_one i with e | e
      · rw [show (#[Value.string ⟨#[]⟩, Value.string ⟨#[]⟩] : Array Value).size = 2 from rfl, e]; rfl
      · rw [show (#[Value.string ⟨#[]⟩, Value.string ⟨#[]⟩] : Array Value).size = 2 from rfl, e]; rfl
  rw [this]
theorem run_makeFracs (n : Nat) (hn : n ≤ 1099511627776) (w : World) :
    (Instr.makeSlice 29 (.int .i64 (n : Int)) (.int .i64 (n : Int))).run Tryz.prog w = .ok (.slice (some ⟨w.heap.size, 0, none⟩) n n) (w.alloc (.cells (madeCells #[.string ⟨#[]⟩, .string ⟨#[]⟩] (n * 2)) 36)) := by
  obtain ⟨i0, hi, hz0, hz1, hz2⟩ := info_parts info_Frac
  have hr := run_make (P := Tryz.prog) w 29 36 i0 (.agg #[.string ⟨#[]⟩, .string ⟨#[]⟩]) Tryz.underlying29 hi hz0 .i64 .i64 n n (by omega) (by omega) (by rw [hz2]; omega) (by omega)
  simp only [Int.toNat_natCast] at hr
  rw [hr, hz1]
  simp [Value.cells]


/-- the ideal part, in lowest terms -/
def idl (T : Int) (W : Nat) (wt : Nat → Nat) (i : Nat) : Int × Int := red (T * (wt i : Nat)) (W : Nat)
def idN (T : Int) (W : Nat) (wt : Nat → Nat) (i : Nat) : ByteArray := cS (idl T W wt i).1
def idD (T : Int) (W : Nat) (wt : Nat → Nat) (i : Nat) : ByteArray := cD (idl T W wt i).2
theorem idl_redS {T : Int} {W : Nat} {wt : Nat → Nat} {i : Nat} (hW : 0 < W) : redS (T * (wt i : Nat)) (W : Nat) = idl T W wt i := redS_red (by omega)
/-- the first k of f, then nothing -/
def upto (f : Nat → ByteArray) (k i : Nat) : ByteArray := if i < k then f i else ⟨#[]⟩
theorem upto_next (f : Nat → ByteArray) (k i : Nat) : upto f (k + 1) i = upd (upto f k) k (f k) i := by
  unfold upto upd
  by_cases e : i = k
  · subst e; rw [if_pos (by omega), if_pos rfl]
  · rw [if_neg e]
    dsimp only
    by_cases g : i < k
    · rw [if_pos g, if_pos (by omega)]
    · rw [if_neg g, if_neg (by omega)]

set_option maxRecDepth 100000 in
set_option maxHeartbeats 4000000 in
theorem aIdeal_bad (w : World) (hG : Ground w) (t : ByteArray) (xa : Option Addr) (n cap : Nat) (s : Nat → ByteArray) (hr : Rs w xa n s) (hf : FitW n t s) (h : weighE t n s ≠ 0) :
    Calls Tryz.prog 16 #[.string t, .slice xa n cap] w fun e w' => e = .returned (nilE (weighE t n s)) ∧ Below w.heap.size w w' := by
  have HW := Lib.hid (aWeigh w hG t xa n cap s hr hf)
  rw [if_neg h] at HW
  obtain ⟨c, hc⟩ : ∃ c, weighE t n s = c := ⟨_, rfl⟩
  rw [hc] at HW ⊢
  have hb : (c != 0) = true := by rw [bne_iff_ne, ← hc]; exact h
  clear hc h hr hf hG
  unfold nilE
  go_enter Tryz.func16, Tryz.ntmps16
  go_wp2_with fail
  refine HW.out.mono ?_
  rintro _ w1 ⟨rfl, hB⟩
  go_wp2_with fail
  go_ret2
  exact ⟨rfl, hB⟩

set_option maxRecDepth 100000 in
set_option maxHeartbeats 8000000 in
theorem aIdeal_ok (w : World) (hG : Ground w) (t : ByteArray) (xa : Option Addr) (n cap : Nat) (s : Nat → ByteArray) (hr : Rs w xa n s) (hf : FitW n t s) (h : weighE t n s = 0) :
    Calls Tryz.prog 16 #[.string t, .slice xa n cap] w fun e w' =>
      ∃ P, e = .returned (.tuple #[.slice (some ⟨P, 0, none⟩) n n, .int .i64 0]) ∧ Rf w' (some ⟨P, 0, none⟩) n (idN (vS t) (Num.sumN (wtN s) n) (wtN s)) (idD (vS t) (Num.sumN (wtN s) n) (wtN s)) ∧ Below w.heap.size w w' := by
  have hd := (weighE_zero h).data hf
  obtain ⟨c, hc1, hdiv⟩ := hd.divc
  have hn := hdiv.few
  have HW := Lib.hid (aWeigh w hG t xa n cap s hr hf)
  rw [if_pos h, h, hd.sum] at HW
  have HR := Lib.hid (Rs.congr hr (t := fun i => cS (wtN s i : Nat)) (fun i hi => (hd.each i hi).symm))
  have HG := Lib.hid hG
  have hmake := run_makeFracs n (by omega)
  obtain ⟨T, hT⟩ : ∃ T, vS t = T := ⟨_, rfl⟩
  obtain ⟨W, hWW⟩ : ∃ W, Num.sumN (wtN s) n = W := ⟨_, rfl⟩
  obtain ⟨wt, hwt⟩ : ∃ wt, wtN s = wt := ⟨_, rfl⟩
  rw [hT, hWW, hwt] at hdiv ⊢
  rw [hwt] at HR
  rw [hWW] at HW
  have HDV := Lib.hid hdiv
  have HTT := Lib.hid hT
  have hts := hf.t1
  obtain ⟨u, hu⟩ : ∃ u, cS (W : Nat) = u := ⟨_, rfl⟩
  rw [hu] at HW
  have HU := Lib.hid hu
  clear hd hdiv h hr hf hG hT hWW hwt hu
  go_enter Tryz.func16, Tryz.ntmps16
  go_wp2_with fail
  refine HW.out.mono ?_
  rintro _ w1 ⟨rfl, hB⟩
  obtain ⟨P, hP⟩ : ∃ P, w1.heap.size = P := ⟨_, rfl⟩
  obtain ⟨W2, hW2⟩ : ∃ W2, W2 = w1.alloc (.cells (madeCells #[.string ⟨#[]⟩, .string ⟨#[]⟩] (n * 2)) 36) := ⟨_, rfl⟩
  have hPR : RowC W2 P 36 (n * 2) (pairC (upto (idN T W wt) 0) (upto (idD T W wt) 0)) := by
    rw [hW2, ← hP]
    exact (RowC.made2 w1 36 n).congr fun i _ => by unfold pairC upto; simp
  have HPR := Lib.hid hPR
  have HB2 := Lib.hid (show Below w.heap.size w W2 by rw [hW2]; exact hB.alloc hB.size _)
  have hPw : w.heap.size ≤ P := by rw [← hP]; exact hB.size
  have HW2 := Lib.hid hW2
  clear hPR hB hW2
  go_wp2_with fail
  rw [← HW2.out]
  clear hP HW2
  go_loopw [25] (fun iv wr => ∃ k : Nat, k ≤ n ∧ iv = .int .i64 (k : Int) ∧ Hid (RowC wr P 36 (n * 2) (pairC (upto (idN T W wt) k) (upto (idD T W wt) k))) ∧ Hid (Below w.heap.size w wr)) (fun iv _ => n - (intOf iv).toNat)
  case atStart => exact ⟨0, Nat.zero_le _, rfl, HPR, HB2⟩
  case round =>
    clear HPR HB2
    obtain ⟨k, hk, rfl, HPR, HB⟩ := hrel
    by_cases hlt : k < n
    · obtain ⟨b, o, rfl, hb, hck⟩ := Rs.at (HR.out.belowAt HB.out (Nat.le_refl _)) hlt
      have hm := Cap.mul (show Cap c T from HDV.out.capA) (show Cap c (wt k : Nat) by have := HDV.out.wlt hlt; unfold Cap; omega)
      have HM := Lib.hid (fun W' hW => mul_v (a := t) (b := cS (wt k : Nat)) (z := T * (wt k : Nat)) W' hW (by omega) (HDV.out.sizewt hlt) HTT.out (vS_cS _) rfl)
      have HN := Lib.hid (fun W' hW => fNew_v (z := idl T W wt k) W' hW (a := cS (T * (wt k : Nat))) (b := u) (by have := cS_size hm; omega) (by rw [← HU.out]; have := cS_size (z := (W : Int)) (k := c) (by have := HDV.out.capW; omega); omega) (vS_cS _) (by rw [← HU.out]; exact vS_cS _) (by have := HDV.out.w0; omega) (idl_redS HDV.out.w0))
      unfold StrPost at HM
      obtain ⟨x1, hx1⟩ : ∃ x, cS (T * (wt k : Nat)) = x := ⟨_, rfl⟩
      obtain ⟨sw, hsw⟩ : ∃ x, cS (wt k : Nat) = x := ⟨_, rfl⟩
      obtain ⟨un, hun⟩ : ∃ x, cS (idl T W wt k).1 = x := ⟨_, rfl⟩
      obtain ⟨ud, hud⟩ : ∃ x, cD (idl T W wt k).2 = x := ⟨_, rfl⟩
      rw [hx1, hsw] at HM
      rw [hx1, hun, hud] at HN
      rw [hsw] at hck
      have HUN := Lib.hid (show idN T W wt k = un from hun)
      have HUD := Lib.hid (show idD T W wt k = ud from hud)
      clear hm hx1 hsw hun hud
      go_wp2_with fail
      refine (HM.out _ (HG.out.below HB.out)).mono ?_
      rintro _ w3 ⟨rfl, hB3⟩
      have HB3 := Lib.hid (HB.out.trans (hB3.mono HB.out.size))
      have HP3 := Lib.hid (HPR.out.below hB3 HPR.out.lt)
      clear hB3 HB HPR hck
      go_wp2_with fail
      refine (HN.out _ (HG.out.below HB3.out)).mono ?_
      rintro _ w4 ⟨rfl, hB4⟩
      have HB4 := Lib.hid (HB3.out.trans (hB4.mono HB3.out.size))
      have HP4 := Lib.hid (HP3.out.below hB4 HP3.out.lt)
      clear hB4 HB3 HP3
      have c1 := HP4.out.cell (i := k * 2) (by omega)
      have f1 := HP4.out.frozen (k * 2)
      have f2 := HP4.out.frozen (k * 2 + 1)
      have hs1 := HP4.out.set (k * 2) (.string un)
      have c2 := hs1.cell (i := k * 2 + 1) (by omega)
      have f3 := hs1.frozen (k * 2 + 1)
      have HS := Lib.hid ((hs1.set (k * 2 + 1) (.string ud)).congr (d := pairC (upto (idN T W wt) (k + 1)) (upto (idD T W wt) (k + 1))) fun i hi => by
        rw [show pairC (upto (idN T W wt) (k + 1)) (upto (idD T W wt) (k + 1)) i = pairC (upd (upto (idN T W wt) k) k un) (upd (upto (idD T W wt) k) k ud) i by unfold pairC; rw [upto_next, upto_next, HUN.out, HUD.out]]
        exact pairC_set _ _ k un ud i hi)
      have HBS := Lib.hid ((HB4.out.setCell (p := ⟨P, k * 2, none⟩) hPw (.string un)).setCell (p := ⟨P, k * 2 + 1, none⟩) hPw (.string ud))
      clear hs1
      go_wp2_with fail
      go_roundw
      case rel => exact ⟨k + 1, by omega, by simp, HS, HBS⟩
      case measure => simp [intOf]; omega
    · obtain rfl : k = n := by omega
      go_wp2_with fail
      go_ret2
      refine ⟨P, rfl, RowC.rf (HPR.out.congr fun i hi => ?_), HB.out⟩
      have h2 : i / 2 < k := by omega
      simp only [pairC, upto, if_pos h2]

end Go.Proofs.YthhihdihkddakaaGreatDoor

/- allocate.checkFractions, commonDenominator, numerators, Fractions: the walks. -/
namespace Go.Proofs.YthhihdihkddakaaGreatDoor
open Go.RowKit Fra

/-- a fraction is canonical; a fraction is no share -/
def canF (u v : ByteArray) : Bool := decide (cS (low (raw u v)).1 = u ∧ cD (low (raw u v)).2 = v)
def wrongF (u v : ByteArray) : Bool := !canF u v || decide (vS u < 0)
theorem check_ret1 {u v : ByteArray} (hu : u.size ≤ 100000) (hv : v.size ≤ 100000) (h : canF u v = true) : Ret 129 #[.agg #[.string u, .string v]] (.int .i64 0) := fun W hW => fCheck_ok u v W hW hu hv (of_decide_eq_true h)
theorem check_ret0 {u v : ByteArray} (hu : u.size ≤ 100000) (hv : v.size ≤ 100000) (h : canF u v = false) : Ret 129 #[.agg #[.string u, .string v]] (.int .i64 1) := fun W hW => fCheck_bad u v W hW hu hv (of_decide_eq_false h)

set_option maxRecDepth 100000 in
set_option maxHeartbeats 8000000 in
theorem aWrong_can {u v : ByteArray} (hu : u.size ≤ 100000) (hv : v.size ≤ 100000) (h : canF u v = false) : Ret 128 #[.agg #[.string u, .string v]] (.bool true) := by
  intro w hG
  have HC := Lib.hid (check_ret0 hu hv h)
  have HG := Lib.hid hG
  obtain ⟨W0, hW0⟩ : ∃ W0, W0 = w.alloc (.cells #[.string u, .string v] 36) := ⟨_, rfl⟩
  have hB : Below w.heap.size w W0 := by rw [hW0]; exact (Below.refl _ _).alloc (Nat.le_refl _) _
  have hP : PairAt W0 w.heap.size 36 u v := by rw [hW0]; exact PairAt.made _ _ _ _
  clear h hu hv hG
  go_enter Tryz.func128, Tryz.ntmps128
  go_upto_region 1 with fail
  rw [← hW0]
  clear hW0
  obtain ⟨c4, c5, _, _⟩ := hP.cells
  go_wp2_with fail
  refine (HC.out W0 (HG.out.below hB)).mono ?_
  rintro _ w1 ⟨rfl, hB1⟩
  go_wp2_with fail
  go_ret
  exact ⟨rfl, hB.trans (hB1.mono hB.size)⟩

set_option maxRecDepth 100000 in
set_option maxHeartbeats 8000000 in
theorem aWrong_neg {u v : ByteArray} (hu : u.size ≤ 100000) (hv : v.size ≤ 100000) (h : canF u v = true) : Ret 128 #[.agg #[.string u, .string v]] (.bool (decide (vS u < 0))) := by
  intro w hG
  have HC := Lib.hid (check_ret1 hu hv h)
  have HN := Lib.hid (fun W => aNeg (s := u) (by omega) rfl W)
  have HG := Lib.hid hG
  obtain ⟨W0, hW0⟩ : ∃ W0, W0 = w.alloc (.cells #[.string u, .string v] 36) := ⟨_, rfl⟩
  have hB : Below w.heap.size w W0 := by rw [hW0]; exact (Below.refl _ _).alloc (Nat.le_refl _) _
  have hP : PairAt W0 w.heap.size 36 u v := by rw [hW0]; exact PairAt.made _ _ _ _
  obtain ⟨r, hr⟩ : ∃ r, decide (vS u < 0) = r := ⟨_, rfl⟩
  rw [hr] at HN ⊢
  clear h hu hv hG hr
  go_enter Tryz.func128, Tryz.ntmps128
  go_upto_region 1 with fail
  rw [← hW0]
  clear hW0
  obtain ⟨c4, c5, _, _⟩ := hP.cells
  go_wp2_with fail
  refine (HC.out W0 (HG.out.below hB)).mono ?_
  rintro _ w1 ⟨rfl, hB1⟩
  have hP1 := hP.below hB1
  obtain ⟨k4, k5, _, _⟩ := hP1.cells
  clear c4 c5
  go_wp2_with fail
  refine (HN.out w1).mono ?_
  rintro _ w2 ⟨rfl, hB2⟩
  replace hB := hB.trans (hB1.mono hB.size)
  go_wp2_with fail
  go_ret
  exact ⟨rfl, hB.trans (hB2.mono hB.size)⟩

theorem aWrong {u v : ByteArray} (hu : u.size ≤ 100000) (hv : v.size ≤ 100000) : Ret 128 #[.agg #[.string u, .string v]] (.bool (wrongF u v)) := by
  unfold wrongF
  cases h : canF u v with
  | false => exact aWrong_can hu hv h
  | true => rw [show (!true || decide (vS u < 0)) = decide (vS u < 0) by simp]; exact aWrong_neg hu hv h

/-- few, or too many -/
structure FitF (n : Nat) (t : ByteArray) (u v : Nat → ByteArray) : Prop where
  few : n ≤ 12 ∨ 1000 < n
  max : n ≤ 100000
  t1 : t.size ≤ 1000
  num : n ≤ 1000 → ∀ i, i < n → (u i).size ≤ 100
  den : n ≤ 1000 → ∀ i, i < n → (v i).size ≤ 100
def wrongs (n : Nat) (u v : Nat → ByteArray) : Bool := (List.range n).any fun i => wrongF (u i) (v i)
/-- why t cannot be divided by fractions, whatever their sum -/
def fracE (t : ByteArray) (n : Nat) (u v : Nat → ByteArray) : Int :=
  if n = 0 then 11 else if 1000 < n then 4 else if isCan t = false ∨ wrongs n u v = true then 1 else 0
set_option maxRecDepth 100000 in
set_option maxHeartbeats 8000000 in
theorem aChkF_cnt (w : World) (t : ByteArray) (xa : Option Addr) (n cap : Nat) (c : Int) (hc : cnt n = c) (hb : (c != 0) = true) (hmax : n ≤ 100000) :
    Calls Tryz.prog 75 #[.string t, .slice xa n cap] w fun e w' => e = .returned (.int .i64 c) ∧ Below w.heap.size w w' := by
  have HC := Lib.hid (aCount n w (by omega))
  rw [hc] at HC
  clear hc
  go_enter Tryz.func75, Tryz.ntmps75
  go_wp2_with fail
  refine HC.out.mono ?_
  rintro _ _ ⟨rfl, rfl⟩
  go_wp2_with fail
  go_ret
  exact ⟨rfl, Below.refl _ _⟩

set_option maxRecDepth 100000 in
set_option maxHeartbeats 8000000 in
theorem aChkF_can (w : World) (t : ByteArray) (xa : Option Addr) (n cap : Nat) (u v : Nat → ByteArray) (hf : FitF n t u v) (h0 : 0 < n) (hk : n ≤ 1000) (ht : isCan t = false) :
    Calls Tryz.prog 75 #[.string t, .slice xa n cap] w fun e w' => e = .returned (.int .i64 1) ∧ Below w.heap.size w w' := by
  have hmax := hf.max
  have HC := Lib.hid (aCount n w (by omega))
  rw [show cnt n = 0 by unfold cnt; rw [if_neg (by omega), if_neg (by omega)]] at HC
  have HB := Lib.hid (show Below w.heap.size w (w.alloc (.cells #[.string t] 22)) from (Below.refl _ _).alloc (Nat.le_refl _) _)
  have HT := Lib.hid (aCan _ _ 1 1 _ (Rs.one w t 22) (by decide) (fun _ _ => by have := hf.t1; omega))
  rw [allC_one, ht] at HT
  clear hf ht
  go_enter Tryz.func75, Tryz.ntmps75
  go_wp2_with fail
  refine HC.out.mono ?_
  rintro _ _ ⟨rfl, rfl⟩
  go_wp2_with fail
  refine HT.out.mono ?_
  rintro _ _ ⟨rfl, rfl⟩
  go_wp2_with fail
  go_ret
  exact ⟨rfl, HB.out⟩

set_option maxRecDepth 100000 in
set_option maxHeartbeats 8000000 in
theorem aChkF_all (w : World) (hG : Ground w) (t : ByteArray) (xa : Option Addr) (n cap : Nat) (u v : Nat → ByteArray) (hr : Rf w xa n u v) (hf : FitF n t u v) (h0 : 0 < n) (hk : n ≤ 1000) (ht : isCan t = true) (r : Int) (h1 : wrongs n u v = true → r = 1) (h2 : wrongs n u v = false → r = 0) :
    Calls Tryz.prog 75 #[.string t, .slice xa n cap] w fun e w' => e = .returned (.int .i64 r) ∧ Below w.heap.size w w' := by
  have hmax := hf.max
  have HC := Lib.hid (aCount n w (by omega))
  rw [show cnt n = 0 by unfold cnt; rw [if_neg (by omega), if_neg (by omega)]] at HC
  have HB := Lib.hid (show Below w.heap.size w (w.alloc (.cells #[.string t] 22)) from (Below.refl _ _).alloc (Nat.le_refl _) _)
  have HT := Lib.hid (aCan _ _ 1 1 _ (Rs.one w t 22) (by decide) (fun _ _ => by have := hf.t1; omega))
  rw [allC_one, ht] at HT
  have HH := Lib.hid (hasWrong _ (hG.alloc (.cells #[.string t] 22)) xa n cap u v (hr.alloc _) (by omega) (fun i => wrongF (u i) (v i)) (fun i hi W hW => aWrong (by have := hf.num hk i hi; omega) (by have := hf.den hk i hi; omega) W hW))
  rw [show (List.range n).any (fun i => wrongF (u i) (v i)) = wrongs n u v from rfl] at HH
  obtain ⟨q, hq⟩ : ∃ q, wrongs n u v = q := ⟨_, rfl⟩
  rw [hq] at HH h1 h2
  clear hf ht hr hG hq
  go_enter Tryz.func75, Tryz.ntmps75
  go_wp2_with fail
  refine HC.out.mono ?_
  rintro _ _ ⟨rfl, rfl⟩
  go_wp2_with fail
  refine HT.out.mono ?_
  rintro _ _ ⟨rfl, rfl⟩
  go_wp2_with fail
  refine HH.out.mono ?_
  rintro _ w2 ⟨rfl, hB2⟩
  cases q with
  | true =>
    have hr1 := h1 rfl
    clear h1 h2
    go_wp2_with fail
    go_ret
    exact ⟨by rw [hr1]; rfl, HB.out.trans (hB2.mono HB.out.size)⟩
  | false =>
    have hr1 := h2 rfl
    clear h1 h2
    go_wp2_with fail
    go_ret
    exact ⟨by rw [hr1]; rfl, HB.out.trans (hB2.mono HB.out.size)⟩

theorem aChkF (w : World) (hG : Ground w) (t : ByteArray) (xa : Option Addr) (n cap : Nat) (u v : Nat → ByteArray) (hr : Rf w xa n u v) (hf : FitF n t u v) :
    Calls Tryz.prog 75 #[.string t, .slice xa n cap] w fun e w' => e = .returned (.int .i64 (fracE t n u v)) ∧ Below w.heap.size w w' := by
  unfold fracE
  by_cases h0 : n = 0
  · rw [if_pos h0]
    subst h0
    exact aChkF_cnt w t xa 0 cap 11 rfl rfl (by decide)
  rw [if_neg h0]
  by_cases h1 : 1000 < n
  · rw [if_pos h1]
    exact aChkF_cnt w t xa n cap 4 (by unfold cnt; rw [if_neg h0, if_pos h1]) rfl hf.max
  rw [if_neg h1]
  cases ht : isCan t with
  | false => rw [if_pos (Or.inl rfl)]; exact aChkF_can w t xa n cap u v hf (by omega) (by omega) ht
  | true => exact aChkF_all w hG t xa n cap u v hr hf (by omega) (by omega) ht _ (fun h => if_pos (Or.inr h)) (fun h => if_neg (by rw [h]; simp))

/-- the numerators and the denominators -/
def nuN (u v : Nat → ByteArray) (i : Nat) : Nat := (low (raw (u i) (v i))).1.toNat
def deN (u v : Nat → ByteArray) (i : Nat) : Nat := (low (raw (u i) (v i))).2.toNat
/-- the fractions are such as t can be divided by, but for their sum -/
structure GoodF (t : ByteArray) (n : Nat) (u v : Nat → ByteArray) : Prop where
  pos : 0 < n
  few : n ≤ 12
  total : t = cS (vS t)
  num : ∀ i, i < n → (low (raw (u i) (v i))).1 = (nuN u v i : Nat)
  den : ∀ i, i < n → (low (raw (u i) (v i))).2 = (deN u v i : Nat)
  den0 : ∀ i, i < n → 0 < deN u v i
  capn : ∀ i, i < n → nuN u v i < 10 ^ 100
  capd : ∀ i, i < n → deN u v i < 10 ^ 100
  val : ∀ i, i < n → Val (u i) (v i) (raw (u i) (v i))
theorem fracE_zero {t : ByteArray} {n : Nat} {u v : Nat → ByteArray} (hf : FitF n t u v) (h : fracE t n u v = 0) : GoodF t n u v := by
  unfold fracE at h
  by_cases h1 : n = 0
  · rw [if_pos h1] at h; omega
  rw [if_neg h1] at h
  by_cases h2 : 1000 < n
  · rw [if_pos h2] at h; omega
  rw [if_neg h2] at h
  by_cases h3 : isCan t = false ∨ wrongs n u v = true
  · rw [if_pos h3] at h; omega
  have hfew := hf.few
  have hc : ∀ i, i < n → CapP 100 (low (raw (u i) (v i))) := fun i hi => CapP.low (CapP.of_raw (by decide) (hf.num (by omega) i hi) (hf.den (by omega) i hi)) (raw_pos _ _)
  have hp : ∀ i, 0 < (low (raw (u i) (v i))).2 := fun i => low_pos (raw_pos _ _)
  have hw : ∀ i, i < n → wrongF (u i) (v i) = false := fun i hi => by
    cases hq : wrongF (u i) (v i) with
    | false => rfl
    | true => exact absurd (Or.inr (List.any_eq_true.2 ⟨i, List.mem_range.2 hi, hq⟩)) h3
  have hn : ∀ i, i < n → 0 ≤ (low (raw (u i) (v i))).1 := fun i hi => by
    have := hw i hi
    unfold wrongF at this
    rw [Bool.or_eq_false_iff] at this
    have hcan := of_decide_eq_true (show canF (u i) (v i) = true by simpa using this.1)
    have hneg := of_decide_eq_false this.2
    rw [← hcan.1, vS_cS] at hneg
    omega
  refine ⟨by omega, by omega, can_eq ?_, fun i hi => ?_, fun i hi => ?_, fun i hi => ?_, fun i hi => ?_, fun i hi => ?_, fun i hi => ⟨rfl, by have := hf.num (by omega) i hi; omega, by have := hf.den (by omega) i hi; omega⟩⟩
  · cases ht : isCan t with
    | true => rfl
    | false => exact absurd (Or.inl ht) h3
  · have := hn i hi; unfold nuN; omega
  · have := hp i; unfold deN; omega
  · have := hp i; unfold deN; omega
  · have := (hc i hi).1; have := hn i hi; unfold Cap at *; unfold nuN; omega
  · have := (hc i hi).2; have := hp i; unfold Cap at *; unfold deN; omega

theorem lcm_cap {de : Nat → Nat} {n c k : Nat} (hk : k ≤ n) (h : ∀ i, i < n → 0 < de i ∧ de i < 10 ^ c) : Num.lcmD de k < 10 ^ (c * n + 1) := by
  have h1 := Num.lcmD_le (de := de) (B := 10 ^ c) (k := k) (fun i hi => h i (by omega))
  rw [← Nat.pow_mul] at h1
  exact Nat.lt_of_le_of_lt h1 (Nat.pow_lt_pow_right (by decide) (by have := Nat.mul_le_mul_left c hk; omega))

set_option maxRecDepth 100000 in
set_option maxHeartbeats 8000000 in
theorem aCommon (w : World) (hG : Ground w) (t : ByteArray) (xa : Option Addr) (n cap : Nat) (u v : Nat → ByteArray) (hr : Rf w xa n u v) (h : GoodF t n u v) :
    Calls Tryz.prog 76 #[.slice xa n cap] w (StrPost w (Num.lcmD (deN u v) n : Nat)) := by
  have hn := h.few
  have HG := Lib.hid hG
  have HR := Lib.hid hr
  have HH := Lib.hid h
  obtain ⟨C, hC, hlc⟩ : ∃ C, C ≤ 1300 ∧ ∀ k, k ≤ n → Num.lcmD (deN u v) k < 10 ^ C := ⟨100 * n + 1, by omega, fun k hk => lcm_cap hk fun i hi => ⟨h.den0 i hi, h.capd i hi⟩⟩
  have HLC := Lib.hid hlc
  clear hlc
  clear hG hr h
  unfold StrPost
  go_enter Tryz.func76, Tryz.ntmps76
  go_wp2_with fail
  go_loopw [3, 13] (fun mv iv wr => ∃ k : Nat, k ≤ n ∧ iv = .int .i64 (k : Int) ∧ mv = .string (cS (Num.lcmD (deN u v) k : Nat)) ∧ Hid (Below w.heap.size w wr)) (fun _ iv _ => n - (intOf iv).toNat)
  case atStart => exact ⟨0, Nat.zero_le _, rfl, by rw [show Num.lcmD (deN u v) 0 = 1 from rfl]; exact congrArg Value.string cS_one.symm, Lib.hid (Below.refl _ _)⟩
  case round =>
    obtain ⟨k, hk, rfl, rfl, HB⟩ := hrel
    by_cases hlt : k < n
    · obtain ⟨b, o, rfl, hb, hc1, hc2⟩ := Rf.at (HR.out.belowAt HB.out (Nat.le_refl _)) hlt
      have HPA := Lib.hid (fun W' hW => fParts_v (z := low (raw (u k) (v k))) W' hW (HH.out.val k hlt) rfl)
      rw [HH.out.num k hlt, HH.out.den k hlt] at HPA
      have hdk := HH.out.capd k hlt
      have hd0 := HH.out.den0 k hlt
      have hlk := HLC.out k hk
      have hl0 : 0 < Num.lcmD (deN u v) k := Num.lcmD_pos fun i hi => HH.out.den0 i (by omega)
      obtain ⟨d, hd⟩ : ∃ d, deN u v k = d := ⟨_, rfl⟩
      obtain ⟨l, hl⟩ : ∃ l, Num.lcmD (deN u v) k = l := ⟨_, rfl⟩
      have HNX := Lib.hid (show Num.lcmD (deN u v) (k + 1) = l * (d / Nat.gcd d l) by rw [← hd, ← hl]; rfl)
      rw [hd] at HPA hdk hd0
      rw [hl] at hlk hl0 ⊢
      have hg0 : 0 < Nat.gcd d l := Nat.gcd_pos_of_pos_left _ hd0
      have hgl : Nat.gcd d l < 10 ^ 100 := Nat.lt_of_le_of_lt (Nat.gcd_le_left _ hd0) hdk
      have hfl : d / Nat.gcd d l < 10 ^ 100 := Nat.lt_of_le_of_lt (Nat.div_le_self _ _) hdk
      have HGC := Lib.hid (fun W' hW => gcd_v (a := cS (d : Nat)) (b := cS (l : Nat)) (z := ((Nat.gcd d l : Nat) : Int)) W' hW (natS_size hdk (by decide)) (natS_size hlk (by omega)) (vS_cS _) (vS_cS _) rfl)
      have HDV := Lib.hid (fun W' hW => div_v (a := cS (d : Nat)) (b := cS ((Nat.gcd d l : Nat) : Int)) (q := ((d / Nat.gcd d l : Nat) : Int)) (r := ((d % Nat.gcd d l : Nat) : Int)) W' hW (natS_size hdk (by decide)) (natS_size hgl (by decide)) (vS_cS _) (vS_cS _) (by omega) (nat_fdiv _ _) (nat_fmod _ _))
      have HML := Lib.hid (fun W' hW => mul_v (a := cS (l : Nat)) (b := cS ((d / Nat.gcd d l : Nat) : Int)) (z := ((l * (d / Nat.gcd d l) : Nat) : Int)) W' hW (natS_size hlk (by omega)) (natS_size hfl (by decide)) (vS_cS _) (vS_cS _) (Int.natCast_mul _ _).symm)
      unfold StrPost at HGC HML
      rw [← HNX.out] at HML
      obtain ⟨uk, huk⟩ : ∃ x, u k = x := ⟨_, rfl⟩
      obtain ⟨vk, hvk⟩ : ∃ x, v k = x := ⟨_, rfl⟩
      obtain ⟨sn, hsn⟩ : ∃ x, cS (nuN u v k : Nat) = x := ⟨_, rfl⟩
      obtain ⟨sd, hsd⟩ : ∃ x, cS (d : Nat) = x := ⟨_, rfl⟩
      obtain ⟨sl, hsl⟩ : ∃ x, cS (l : Nat) = x := ⟨_, rfl⟩
      obtain ⟨sg, hsg⟩ : ∃ x, cS ((Nat.gcd d l : Nat) : Int) = x := ⟨_, rfl⟩
      obtain ⟨sq, hsq⟩ : ∃ x, cS ((d / Nat.gcd d l : Nat) : Int) = x := ⟨_, rfl⟩
      obtain ⟨sr, hsr⟩ : ∃ x, cS ((d % Nat.gcd d l : Nat) : Int) = x := ⟨_, rfl⟩
      rw [hsn, hsd] at HPA
      rw [hsd, hsl, hsg] at HGC
      rw [hsd, hsg, hsq, hsr] at HDV
      rw [hsl, hsq] at HML
      rw [huk, hvk] at HPA
      rw [huk] at hc1
      rw [hvk] at hc2
      rw [hsl]
      clear hdk hd0 hlk hl0 hd hl hg0 hgl hfl huk hvk hsn hsd hsl hsg hsq hsr HNX
      go_upto_region 5 with fail
      obtain ⟨W3, hW3⟩ : ∃ W3, W3 = wr.alloc (.cells #[.string uk, .string vk] 36) := ⟨_, rfl⟩
      have hP : PairAt W3 wr.heap.size 36 uk vk := by rw [hW3]; exact PairAt.made _ _ _ _
      have hB3 : Below w.heap.size w W3 := by rw [hW3]; exact HB.out.alloc HB.out.size _
      rw [← hW3]
      clear hW3 hc1 hc2 HB
      obtain ⟨k0, k1, _, _⟩ := hP.cells
      go_wp2_with fail
      refine (HPA.out _ (HG.out.below hB3)).mono ?_
      rintro _ w4 ⟨rfl, hB4⟩
      replace hB3 := hB3.trans (hB4.mono hB3.size)
      clear hB4 k0 k1 hP
      go_wp2_with fail
      refine (HGC.out _ (HG.out.below hB3)).mono ?_
      rintro _ w5 ⟨rfl, hB4⟩
      replace hB3 := hB3.trans (hB4.mono hB3.size)
      clear hB4
      go_wp2_with fail
      refine (HDV.out _ (HG.out.below hB3)).mono ?_
      rintro _ w6 ⟨rfl, hB4⟩
      replace hB3 := hB3.trans (hB4.mono hB3.size)
      clear hB4
      go_wp2_with fail
      refine (HML.out _ (HG.out.below hB3)).mono ?_
      rintro _ w7 ⟨rfl, hB4⟩
      replace hB3 := hB3.trans (hB4.mono hB3.size)
      clear hB4
      go_wp2_with fail
      go_roundw
      case rel => exact ⟨k + 1, by omega, by simp, rfl, Lib.hid hB3⟩
      case measure => simp [intOf]; omega
    · obtain rfl : k = n := by omega
      go_wp2_with fail
      go_ret
      exact ⟨rfl, HB.out⟩

set_option maxRecDepth 100000 in
set_option maxHeartbeats 8000000 in
theorem aNums (w : World) (hG : Ground w) (t : ByteArray) (xa : Option Addr) (n cap : Nat) (u v : Nat → ByteArray) (hr : Rf w xa n u v) (h : GoodF t n u v) (M : Nat) (hM : Num.lcmD (deN u v) n = M) :
    Calls Tryz.prog 77 #[.slice xa n cap, .string (cS (M : Nat))] w fun e w' => ∃ P, w.heap.size ≤ P ∧ e = .returned (.slice (some ⟨P, 0, none⟩) n n) ∧ (RowC w' P 22 n fun i => .string (cS (Num.numW (nuN u v) (deN u v) M i : Nat))) ∧ Below w.heap.size w w' := by
  have hn := h.few
  have HG := Lib.hid hG
  have HR := Lib.hid hr
  have HH := Lib.hid h
  obtain ⟨C, hC, hlc⟩ : ∃ C, C ≤ 1300 ∧ ∀ k, k ≤ n → Num.lcmD (deN u v) k < 10 ^ C := ⟨100 * n + 1, by omega, fun k hk => lcm_cap hk fun i hi => ⟨h.den0 i hi, h.capd i hi⟩⟩
  have HM := Lib.hid (show M < 10 ^ C by rw [← hM]; exact hlc n (Nat.le_refl _))
  have hmake := run_makeStrs n (by omega)
  obtain ⟨P, hP⟩ : ∃ P, w.heap.size = P := ⟨_, rfl⟩
  obtain ⟨W2, hW2⟩ : ∃ W2, W2 = w.alloc (.cells (madeCells #[.string ⟨#[]⟩] n) 22) := ⟨_, rfl⟩
  have hPR : RowC W2 P 22 n (fun i => .string (firsts (Num.numW (nuN u v) (deN u v) M) 0 i)) := by
    rw [hW2, ← hP]
    exact (RowC.made w 22 (.string ⟨#[]⟩) n).congr fun i _ => by unfold firsts; rw [if_neg (by omega)]
  have HPR := Lib.hid hPR
  have HB2 := Lib.hid (show Below w.heap.size w W2 by rw [hW2]; exact (Below.refl _ _).alloc (Nat.le_refl _) _)
  have hPw : w.heap.size ≤ P := by omega
  have HW2 := Lib.hid hW2
  clear hG hr h hlc hPR hW2 hM
  obtain ⟨sm, hsm⟩ : ∃ x, cS (M : Nat) = x := ⟨_, rfl⟩
  rw [hsm]
  have HSM := Lib.hid hsm
  clear hsm
  go_enter Tryz.func77, Tryz.ntmps77
  go_wp2_with fail
  rw [← HW2.out]
  clear HW2
  try rw [hP]
  go_loopw [18] (fun iv wr => ∃ k : Nat, k ≤ n ∧ iv = .int .i64 (k : Int) ∧ Hid (RowC wr P 22 n (fun i => .string (firsts (Num.numW (nuN u v) (deN u v) M) k i))) ∧ Hid (Below w.heap.size w wr)) (fun iv _ => n - (intOf iv).toNat)
  case atStart => exact ⟨0, Nat.zero_le _, rfl, HPR, HB2⟩
  case round =>
    clear HPR HB2 hP
    obtain ⟨k, hk, rfl, HPR, HB⟩ := hrel
    by_cases hlt : k < n
    · obtain ⟨b, o, rfl, hb, hc1, hc2⟩ := Rf.at (HR.out.belowAt HB.out (Nat.le_refl _)) hlt
      have HPA := Lib.hid (fun W' hW => fParts_v (z := low (raw (u k) (v k))) W' hW (HH.out.val k hlt) rfl)
      rw [HH.out.num k hlt, HH.out.den k hlt] at HPA
      have hdk := HH.out.capd k hlt
      have hnk := HH.out.capn k hlt
      have hd0 := HH.out.den0 k hlt
      have hM1 := HM.out
      obtain ⟨d, hd⟩ : ∃ d, deN u v k = d := ⟨_, rfl⟩
      obtain ⟨e, he⟩ : ∃ e, nuN u v k = e := ⟨_, rfl⟩
      have HNX := Lib.hid (show Num.numW (nuN u v) (deN u v) M k = e * (M / d) by rw [← hd, ← he]; rfl)
      rw [hd, he] at HPA
      rw [hd] at hdk hd0
      rw [he] at hnk
      have hfl : M / d < 10 ^ C := Nat.lt_of_le_of_lt (Nat.div_le_self _ _) hM1
      have HDV := Lib.hid (fun W' hW => div_v (a := sm) (b := cS (d : Nat)) (q := ((M / d : Nat) : Int)) (r := ((M % d : Nat) : Int)) W' hW (by rw [← HSM.out]; exact natS_size hM1 (by omega)) (natS_size hdk (by decide)) (by rw [← HSM.out]; exact vS_cS _) (vS_cS _) (by omega) (nat_fdiv _ _) (nat_fmod _ _))
      have HML := Lib.hid (fun W' hW => mul_v (a := cS (e : Nat)) (b := cS ((M / d : Nat) : Int)) (z := ((e * (M / d) : Nat) : Int)) W' hW (natS_size hnk (by decide)) (natS_size hfl (by omega)) (vS_cS _) (vS_cS _) (Int.natCast_mul _ _).symm)
      unfold StrPost at HML
      rw [← HNX.out] at HML
      obtain ⟨uk, huk⟩ : ∃ x, u k = x := ⟨_, rfl⟩
      obtain ⟨vk, hvk⟩ : ∃ x, v k = x := ⟨_, rfl⟩
      obtain ⟨sn, hsn⟩ : ∃ x, cS (e : Nat) = x := ⟨_, rfl⟩
      obtain ⟨sd, hsd⟩ : ∃ x, cS (d : Nat) = x := ⟨_, rfl⟩
      obtain ⟨sq, hsq⟩ : ∃ x, cS ((M / d : Nat) : Int) = x := ⟨_, rfl⟩
      obtain ⟨sr, hsr⟩ : ∃ x, cS ((M % d : Nat) : Int) = x := ⟨_, rfl⟩
      obtain ⟨sx, hsx⟩ : ∃ x, cS (Num.numW (nuN u v) (deN u v) M k : Nat) = x := ⟨_, rfl⟩
      rw [huk, hvk, hsn, hsd] at HPA
      rw [hsd, hsq, hsr] at HDV
      rw [hsn, hsq, hsx] at HML
      rw [huk] at hc1
      rw [hvk] at hc2
      have HSX := Lib.hid hsx
      clear hdk hd0 hnk hM1 hd he hfl huk hvk hsn hsd hsq hsr hsx HNX
      go_upto_region 5 with fail
      obtain ⟨W3, hW3⟩ : ∃ W3, W3 = wr.alloc (.cells #[.string uk, .string vk] 36) := ⟨_, rfl⟩
      have hPk : PairAt W3 wr.heap.size 36 uk vk := by rw [hW3]; exact PairAt.made _ _ _ _
      have hB3 : Below w.heap.size w W3 := by rw [hW3]; exact HB.out.alloc HB.out.size _
      have HP3 := Lib.hid (show RowC W3 P 22 n (fun i => .string (firsts (Num.numW (nuN u v) (deN u v) M) k i)) by rw [hW3]; exact HPR.out.alloc _)
      rw [← hW3]
      clear hW3 hc1 hc2 HB HPR
      obtain ⟨k0, k1, _, _⟩ := hPk.cells
      go_wp2_with fail
      refine (HPA.out _ (HG.out.below hB3)).mono ?_
      rintro _ w4 ⟨rfl, hB4⟩
      have HP4 := Lib.hid (HP3.out.below hB4 HP3.out.lt)
      replace hB3 := hB3.trans (hB4.mono hB3.size)
      clear hB4 k0 k1 hPk HP3
      go_wp2_with fail
      refine (HDV.out _ (HG.out.below hB3)).mono ?_
      rintro _ w5 ⟨rfl, hB4⟩
      have HP5 := Lib.hid (HP4.out.below hB4 HP4.out.lt)
      replace hB3 := hB3.trans (hB4.mono hB3.size)
      clear hB4 HP4
      go_wp2_with fail
      refine (HML.out _ (HG.out.below hB3)).mono ?_
      rintro _ w6 ⟨rfl, hB4⟩
      have HP6 := Lib.hid (HP5.out.below hB4 HP5.out.lt)
      replace hB3 := hB3.trans (hB4.mono hB3.size)
      clear hB4 HP5
      have c1 := HP6.out.cell hlt
      have f1 := HP6.out.frozen k
      have HS := Lib.hid ((HP6.out.set k (.string sx)).congr (d := fun i => .string (firsts (Num.numW (nuN u v) (deN u v) M) (k + 1) i)) fun i hi => by
        rw [firsts_next, HSX.out]
        unfold upd
        split <;> rfl)
      have HBS := Lib.hid (hB3.setCell (p := ⟨P, k, none⟩) hPw (.string sx))
      clear HP6 hB3
      go_wp2_with fail
      go_roundw
      case rel => exact ⟨k + 1, by omega, by simp, HS, HBS⟩
      case measure => simp [intOf]; omega
    · obtain rfl : k = n := by omega
      go_wp2_with fail
      go_ret
      refine ⟨P, hPw, rfl, HPR.out.congr fun i hi => ?_, HB.out⟩
      simp only [firsts, if_pos hi]

set_option maxRecDepth 100000 in
set_option maxHeartbeats 8000000 in
theorem aFrac_bad (w : World) (hG : Ground w) (t : ByteArray) (xa : Option Addr) (n cap : Nat) (u v : Nat → ByteArray) (hr : Rf w xa n u v) (hf : FitF n t u v) (h : fracE t n u v ≠ 0) :
    Calls Tryz.prog 28 #[.string t, .slice xa n cap] w fun e w' => e = .returned (nilE (fracE t n u v)) ∧ Below w.heap.size w w' := by
  have HW := Lib.hid (aChkF w hG t xa n cap u v hr hf)
  obtain ⟨c, hc⟩ : ∃ c, fracE t n u v = c := ⟨_, rfl⟩
  rw [hc] at HW ⊢
  have hb : (c != 0) = true := by rw [bne_iff_ne, ← hc]; exact h
  clear hc h hr hf hG
  unfold nilE
  go_enter Tryz.func28, Tryz.ntmps28
  go_wp2_with fail
  refine HW.out.mono ?_
  rintro _ w1 ⟨rfl, hB⟩
  go_wp2_with fail
  go_ret2
  exact ⟨rfl, hB⟩

/-- the weights over the common denominator -/
def wfN (u v : Nat → ByteArray) (n : Nat) : Nat → Nat := Num.numW (nuN u v) (deN u v) (Num.lcmD (deN u v) n)
theorem GoodF.wcap {t : ByteArray} {n : Nat} {u v : Nat → ByteArray} (h : GoodF t n u v) {i : Nat} (hi : i < n) : Cap (100 * n + 101) (wfN u v n i : Nat) := by
  have h1 := h.capn i hi
  have h2 := lcm_cap (c := 100) (Nat.le_refl n) fun i hi => ⟨h.den0 i hi, h.capd i hi⟩
  unfold Cap wfN Num.numW
  rw [Int.natAbs_natCast, show 100 * n + 101 = 100 + (100 * n + 1) by omega, Nat.pow_add]
  exact Nat.mul_lt_mul'' h1 (Nat.lt_of_le_of_lt (Nat.div_le_self _ _) h2)
theorem sumS_cS {f : Nat → Nat} : ∀ {n : Nat}, sumS (fun i => cS (f i : Nat)) n = (Num.sumN f n : Nat)
  | 0 => rfl
  | n + 1 => by rw [sumS_succ, sumS_cS, vS_cS]; simp only [Num.sumN]; omega

set_option maxRecDepth 100000 in
set_option maxHeartbeats 8000000 in
theorem aFrac_sum (w : World) (hG : Ground w) (t : ByteArray) (xa : Option Addr) (n cap : Nat) (u v : Nat → ByteArray) (hr : Rf w xa n u v) (hf : FitF n t u v) (h : fracE t n u v = 0) (hs : Num.sumN (wfN u v n) n ≠ Num.lcmD (deN u v) n) :
    Calls Tryz.prog 28 #[.string t, .slice xa n cap] w fun e w' => e = .returned (nilE 9) ∧ Below w.heap.size w w' := by
  have hd := fracE_zero hf h
  have hn := hd.few
  have HW := Lib.hid (aChkF w hG t xa n cap u v hr hf)
  rw [h] at HW
  have HG := Lib.hid hG
  have HCM := Lib.hid (fun W hG hr => aCommon W hG t xa n cap u v hr hd)
  have HNU := Lib.hid (fun W hG hr => aNums W hG t xa n cap u v hr hd (Num.lcmD (deN u v) n) rfl)
  have HSM := Lib.hid (fun P W hG hr => aAddUp (some ⟨P, 0, none⟩) n n (100 * n + 101) (fun i => cS (wfN u v n i : Nat)) W hG hr ⟨by omega, by omega, by omega, fun i hi => by rw [vS_cS]; exact hd.wcap hi, fun i hi => by have := cS_size (hd.wcap hi); omega⟩)
  rw [sumS_cS] at HSM
  unfold StrPost at HCM HSM
  have HR := Lib.hid hr
  have hne : ((cS (Num.sumN (wfN u v n) n : Nat)).toList == (cS (Num.lcmD (deN u v) n : Nat)).toList) = false := by
    rw [beq_toList]
    exact decide_eq_false fun e => hs (by have := vS_cS (Num.sumN (wfN u v n) n : Nat); rw [e, vS_cS] at this; omega)
  obtain ⟨sm, hsm⟩ : ∃ x, cS (Num.lcmD (deN u v) n : Nat) = x := ⟨_, rfl⟩
  obtain ⟨ss, hss⟩ : ∃ x, cS (Num.sumN (wfN u v n) n : Nat) = x := ⟨_, rfl⟩
  rw [hsm] at HCM HNU hne
  rw [hss] at HSM hne
  unfold nilE
  clear h hr hf hG hd hs hsm hss
  go_enter Tryz.func28, Tryz.ntmps28
  go_wp2_with fail
  refine HW.out.mono ?_
  rintro _ w1 ⟨rfl, hB⟩
  go_wp2_with fail
  refine (HCM.out w1 (HG.out.below hB) (HR.out.belowAt hB (Nat.le_refl _))).mono ?_
  rintro _ w2 ⟨rfl, hB2⟩
  replace hB := hB.trans (hB2.mono hB.size)
  clear hB2
  go_wp2_with fail
  refine (HNU.out w2 (HG.out.below hB) (HR.out.belowAt hB (Nat.le_refl _))).mono ?_
  rintro _ w3 ⟨P, hP, rfl, hR, hB2⟩
  replace hB := hB.trans (hB2.mono hB.size)
  clear hB2
  go_wp2_with fail
  refine (HSM.out P w3 (HG.out.below hB) hR.rc).mono ?_
  rintro _ w4 ⟨rfl, hB2⟩
  have hR4 := hR.below hB2 hR.lt
  replace hB := hB.trans (hB2.mono hB.size)
  clear hB2 hR
  go_wp2_with fail
  go_ret2
  exact ⟨rfl, hB⟩

theorem GoodF.divAt {t : ByteArray} {n : Nat} {u v : Nat → ByteArray} (h : GoodF t n u v) (ht : t.size ≤ 1000) (hs : Num.sumN (wfN u v n) n = Num.lcmD (deN u v) n) : ∃ c, c ≤ 2200 ∧ DivAt (vS t).natAbs (Num.lcmD (deN u v) n) n (wfN u v n) c := by
  have hn := h.few
  refine ⟨1000 + 100 * n, by omega, h.pos, by omega, hs, Num.lcmD_pos h.den0, by omega, ?_, ?_⟩
  · exact (Cap.of ht rfl).mono (l := 1000 + 100 * n) (by omega)
  · exact Nat.lt_of_lt_of_le (lcm_cap (c := 100) (Nat.le_refl n) fun i hi => ⟨h.den0 i hi, h.capd i hi⟩) (Nat.pow_le_pow_right (by decide) (by omega))

set_option maxRecDepth 100000 in
set_option maxHeartbeats 8000000 in
theorem aFrac_ok (w : World) (hG : Ground w) (t : ByteArray) (xa : Option Addr) (n cap : Nat) (u v : Nat → ByteArray) (hr : Rf w xa n u v) (hf : FitF n t u v) (h : fracE t n u v = 0) (hs : Num.sumN (wfN u v n) n = Num.lcmD (deN u v) n) :
    Calls Tryz.prog 28 #[.string t, .slice xa n cap] w fun e w' => ∃ P, e = .returned (.tuple #[.slice (some ⟨P, 0, none⟩) n n, .int .i64 0]) ∧ (RowC w' P 22 n fun i => .string (cS (Num.splitP (vS t) (Num.lcmD (deN u v) n) (wfN u v n) n i))) ∧ Below w.heap.size w w' := by
  have hd := fracE_zero hf h
  have hn := hd.few
  have HW := Lib.hid (aChkF w hG t xa n cap u v hr hf)
  rw [h] at HW
  have HG := Lib.hid hG
  have HCM := Lib.hid (fun W hG hr => aCommon W hG t xa n cap u v hr hd)
  have HNU := Lib.hid (fun W hG hr => aNums W hG t xa n cap u v hr hd (Num.lcmD (deN u v) n) rfl)
  have HSM := Lib.hid (fun P W hG hr => aAddUp (some ⟨P, 0, none⟩) n n (100 * n + 101) (fun i => cS (wfN u v n i : Nat)) W hG hr ⟨by omega, by omega, by omega, fun i hi => by rw [vS_cS]; exact hd.wcap hi, fun i hi => by have := cS_size (hd.wcap hi); omega⟩)
  rw [sumS_cS] at HSM
  unfold StrPost at HCM HSM
  have HR := Lib.hid hr
  obtain ⟨c, _, hdiv⟩ := hd.divAt hf.t1 hs
  have HD := Lib.hid (fun P W hG hr => aDivide W hG (vS t) rfl hdiv (some ⟨P, 0, none⟩) n hr)
  rw [← hd.total] at HD
  rw [hs] at HSM
  obtain ⟨sm, hsm⟩ : ∃ x, cS (Num.lcmD (deN u v) n : Nat) = x := ⟨_, rfl⟩
  rw [hsm] at HCM HNU HSM HD
  clear h hr hf hG hd hs hsm hdiv
  go_enter Tryz.func28, Tryz.ntmps28
  go_wp2_with fail
  refine HW.out.mono ?_
  rintro _ w1 ⟨rfl, hB⟩
  go_wp2_with fail
  refine (HCM.out w1 (HG.out.below hB) (HR.out.belowAt hB (Nat.le_refl _))).mono ?_
  rintro _ w2 ⟨rfl, hB2⟩
  replace hB := hB.trans (hB2.mono hB.size)
  clear hB2
  go_wp2_with fail
  refine (HNU.out w2 (HG.out.below hB) (HR.out.belowAt hB (Nat.le_refl _))).mono ?_
  rintro _ w3 ⟨P, hP, rfl, hR, hB2⟩
  replace hB := hB.trans (hB2.mono hB.size)
  clear hB2
  go_wp2_with fail
  refine (HSM.out P w3 (HG.out.below hB) hR.rc).mono ?_
  rintro _ w4 ⟨rfl, hB2⟩
  have hR4 := hR.below hB2 hR.lt
  replace hB := hB.trans (hB2.mono hB.size)
  clear hB2 hR
  go_wp2_with fail
  refine (HD.out P w4 (HG.out.below hB) hR4.rc).mono ?_
  rintro _ w5 ⟨P5, rfl, hP5, hB2⟩
  go_wp2_with fail
  go_ret2
  exact ⟨P5, rfl, hP5, hB.trans (hB2.mono hB.size)⟩

end Go.Proofs.YthhihdihkddakaaGreatDoor

/- Layer 4: the same proportions; two slices that grow. -/
namespace Go.Proofs.YthhihdihkddakaaGreatDoor
open Go.RowKit Fra

namespace Num
theorem rk_congr {r r' : Nat → Nat} {n i : Nat} (hi : i < n) (h : ∀ j, j < n → r j = r' j) : rk r n i = rk r' n i := by
  unfold rk
  refine List.countP_congr fun j hj => ?_
  have hj := List.mem_range.1 hj
  unfold ahd
  rw [h j hj, h i hi]
theorem split_congr {T : Int} {W n i : Nat} {w w' : Nat → Nat} (hi : i < n) (h : ∀ j, j < n → w j = w' j) : splitP T W w n i = splitP T W w' n i := by
  have h1 : partP T.natAbs W w n i = partP T.natAbs W w' n i := by
    unfold partP missP
    rw [rk_congr (r' := remP T.natAbs W w') hi (fun j hj => by unfold remP; rw [h j hj]), sumN_congr (g := quoP T.natAbs W w') (fun j hj => by unfold quoP; rw [h j hj])]
    rw [show quoP T.natAbs W w i = quoP T.natAbs W w' i by unfold quoP; rw [h i hi]]
  unfold splitP
  rw [h1]
/-- fractions in the proportions of the weights -/
theorem prop_parts {n W : Nat} {w nu de : Nat → Nat} (hW : sumN w n = W) (h0 : 0 < W) (hd : ∀ i, i < n → 0 < de i) (hx : ∀ i, i < n → nu i * W = w i * de i) (hdv : ∀ i, i < n → de i ∣ W) :
    sumN (numW nu de (lcmD de n)) n = lcmD de n ∧ ∀ T i, i < n → splitP T (lcmD de n) (numW nu de (lcmD de n)) n i = splitP T W w n i := by
  obtain ⟨c, hc⟩ := lcmD_dvd hdv
  have hc0 : 0 < c := by
    rcases Nat.eq_zero_or_pos c with e | e
    · subst e; omega
    · exact e
  have hw : ∀ i, i < n → w i = c * numW nu de (lcmD de n) i := fun i hi => by
    have h1 := numW_eq (nu := nu) (de := de) (M := lcmD de n) (i := i) (dvd_lcmD hi)
    have h2 := hx i hi
    refine Nat.eq_of_mul_eq_mul_right (hd i hi) ?_
    rw [← h2, Nat.mul_assoc, h1, hc, Nat.mul_comm c, Nat.mul_assoc]
  have hs : c * sumN (numW nu de (lcmD de n)) n = W := by
    rw [← sumN_mul, ← hW]
    exact sumN_congr fun i hi => (hw i hi).symm
  refine ⟨?_, fun T i hi => ?_⟩
  · refine Nat.eq_of_mul_eq_mul_left hc0 ?_
    rw [hs, hc, Nat.mul_comm]
  · rw [split_congr hi hw]
    have h3 := split_scale (T := T) (W := lcmD de n) (w := numW nu de (lcmD de n)) (n := n) (i := i) hc0
    rw [Nat.mul_comm c, ← hc] at h3
    exact h3.symm
end Num

/-- the fractions w / W in lowest terms -/
def prN (W : Nat) (wt : Nat → Nat) (i : Nat) : ByteArray := cS (red (wt i : Nat) (W : Nat)).1
def prD (W : Nat) (wt : Nat → Nat) (i : Nat) : ByteArray := cD (red (wt i : Nat) (W : Nat)).2
theorem pr_low {W : Nat} {wt : Nat → Nat} (h0 : 0 < W) (i : Nat) : low (raw (prN W wt i) (prD W wt i)) = red (wt i : Nat) (W : Nat) := by
  unfold prN prD
  rw [raw_can (red_pos (by omega))]
  exact red_red (by omega)
theorem pr_nn {W m : Nat} (h0 : 0 < W) : 0 ≤ (red (m : Nat) (W : Nat)).1 := by
  have h1 := red_cross (n := (m : Int)) (d := (W : Int))
  have h2 := red_pos (n := (m : Int)) (d := (W : Int)) (by omega)
  rcases Int.lt_or_le (red (m : Nat) (W : Nat)).1 0 with e | e
  · have h3 := Int.mul_neg_of_neg_of_pos e (show (0 : Int) < (W : Int) by omega)
    have h4 := Int.mul_nonneg (show (0 : Int) ≤ (m : Int) by omega) (Int.le_of_lt h2)
    omega
  · exact e
theorem pr_frac {t : ByteArray} {n W k : Nat} {wt : Nat → Nat} (hn0 : 0 < n) (hn : n ≤ 12) (ht : isCan t = true) (ht1 : t.size ≤ 1000) (hW : Num.sumN wt n = W) (h0 : 0 < W) (hk : k ≤ 99) (hk1 : 1 ≤ k) (hc : W < 10 ^ k) :
    FitF n t (prN W wt) (prD W wt) ∧ fracE t n (prN W wt) (prD W wt) = 0 ∧ Num.sumN (wfN (prN W wt) (prD W wt) n) n = Num.lcmD (deN (prN W wt) (prD W wt)) n ∧
      ∀ T i, i < n → Num.splitP T (Num.lcmD (deN (prN W wt) (prD W wt)) n) (wfN (prN W wt) (prD W wt) n) n i = Num.splitP T W wt n i := by
  have hcp : ∀ i, i < n → CapP k (red (wt i : Nat) (W : Nat)) := fun i hi => CapP.of_red (by omega) (by have := sumN_at (f := wt) hi; unfold Cap; omega) (by unfold Cap; omega)
  have hfit : FitF n t (prN W wt) (prD W wt) := ⟨by omega, by omega, ht1, fun _ i hi => by have := cS_size (hcp i hi).1; unfold prN; omega, fun _ i hi => by have := cD_size (hcp i hi).2; unfold prD; omega⟩
  have hlow := fun i => pr_low (W := W) (wt := wt) h0 i
  have hnu : ∀ i, ((nuN (prN W wt) (prD W wt) i : Nat) : Int) = (red (wt i : Nat) (W : Nat)).1 := fun i => by
    have := pr_nn (m := wt i) h0
    unfold nuN
    rw [hlow i]
    omega
  have hde : ∀ i, ((deN (prN W wt) (prD W wt) i : Nat) : Int) = (red (wt i : Nat) (W : Nat)).2 := fun i => by
    have := red_pos (n := (wt i : Int)) (d := (W : Int)) (by omega)
    unfold deN
    rw [hlow i]
    omega
  have hpp := Num.prop_parts (n := n) (W := W) (w := wt) (nu := nuN (prN W wt) (prD W wt)) (de := deN (prN W wt) (prD W wt)) hW h0 (fun i _ => by have := hde i; have := red_pos (n := (wt i : Int)) (d := (W : Int)) (by omega); omega)
    (fun i _ => by
      have h1 := red_cross (n := (wt i : Int)) (d := (W : Int))
      rw [← hnu i, ← hde i] at h1
      exact Int.ofNat_inj.1 (by rw [Int.natCast_mul, Int.natCast_mul]; exact h1))
    (fun i _ => by
      have h1 := red_right (n := (wt i : Int)) (d := (W : Int))
      rw [← hde i] at h1
      exact ⟨Int.gcd (wt i : Int) (W : Int), Int.ofNat_inj.1 (by rw [Int.natCast_mul]; exact h1)⟩)
  refine ⟨hfit, ?_, hpp.1, hpp.2⟩
  have hw : wrongs n (prN W wt) (prD W wt) = false := by
    unfold wrongs
    rw [List.any_eq_false]
    intro i hi
    have hi := List.mem_range.1 hi
    have h1 : canF (prN W wt i) (prD W wt i) = true := by
      unfold canF
      rw [hlow i]
      exact decide_eq_true ⟨rfl, rfl⟩
    have h2 : decide (vS (prN W wt i) < 0) = false := decide_eq_false (by
      have := pr_nn (m := wt i) h0
      unfold prN
      rw [vS_cS]
      omega)
    unfold wrongF
    rw [h1, h2]
    decide
  unfold fracE
  rw [if_neg (by omega), if_neg (by omega), if_neg]
  rintro (h | h)
  · rw [ht] at h; exact absurd h (by decide)
  · rw [hw] at h; exact absurd h (by decide)

/-- weights are good -/
theorem weighE_ok {t : ByteArray} {n : Nat} {s : Nat → ByteArray} (h0 : 0 < n) (hn : n ≤ 1000) (ht : isCan t = true) (hc : ∀ i, i < n → isCan (s i) = true) (hp : ∀ i, i < n → 0 ≤ vS (s i)) (hs : sumS s n ≠ 0) : weighE t n s = 0 := by
  unfold weighE
  rw [if_neg (by omega), if_neg (by omega), if_neg, if_neg hs]
  rintro (h | h | h)
  · rw [ht] at h; exact absurd h (by decide)
  · rw [allC_iff.2 hc] at h; exact absurd h (by decide)
  · rw [negs_false.2 hp] at h; exact absurd h (by decide)

/-! ### Two slices that grow, of strings and of pairs -/
theorem own2 {w : World} {base : Nat} {x y : Value} {n m : Nat} {c d : Nat → Value} (h1 : OwnC w base 22 1 x n c) (h2 : OwnC w base 36 2 y m d) : (x.ownBlock = none ∨ x.ownBlock ≠ y.ownBlock) ∧ (y.ownBlock = none ∨ y.ownBlock ≠ x.ownBlock) := by
  rcases h1.2 with ⟨rfl, _⟩ | ⟨g, cap, cur, rfl, _, hg, _⟩
  · refine ⟨Or.inl rfl, ?_⟩
    rcases h2.2 with ⟨rfl, _⟩ | ⟨g', cap', cur', rfl, _, hg', _⟩
    · exact Or.inl rfl
    · exact Or.inr (by simp [Value.ownBlock])
  · rcases h2.2 with ⟨rfl, _⟩ | ⟨g', cap', cur', rfl, _, hg', _⟩
    · exact ⟨Or.inr (by simp [Value.ownBlock]), Or.inl rfl⟩
    · have hne : g ≠ g' := by
        intro e
        subst e
        rw [hg] at hg'
        simp at hg'
      exact ⟨Or.inr (by simpa [Value.ownBlock] using hne), Or.inr (by simpa [Value.ownBlock] using fun e => hne e.symm)⟩
theorem OwnS.add2 {w : World} {base : Nat} {v y : Value} {n m : Nat} {s : Nat → ByteArray} {d : Nat → Value} (h : OwnS w base v n s) (h2 : OwnC w base 36 2 y m d) (g : Nat) (hg : w.cell? ⟨g, 0, none⟩ = some (.string (s n))) (ty : TypeId) (hs : n + 1 ≤ 10000000) (hb : base ≤ w.heap.size) :
    ∃ v' w', (Builtin.append_ #[23, 23] ty #[v, .slice (some ⟨g, 0, none⟩) 1 1]).run Tryz.prog w = .ok v' w' ∧ OwnS w' base v' (n + 1) s ∧ OwnC w' base 36 2 y m d ∧ Below base w w' := by
  obtain ⟨i0, hi, hz0, hz1, hz2⟩ := info_parts info_Int
  obtain ⟨v', w', h1, h2', h3, _⟩ := run_append_own (P := Tryz.prog) w base 23 ty 22 i0 (.string ⟨#[]⟩) 1 16 Tryz.underlying23 hi hz0 hz1 hz2 rfl (by decide) v n _ h ⟨g, 0, none⟩ 1 1 [.string (s n)] rfl
    (fun j u hj => by
      match j, hj with
      | 0, hj => simp at hj; subst hj; simpa [Addr.add] using hg
      | j + 1, hj => simp at hj)
    (fun u hu => by simp at hu; subst hu; rfl) (by unfold maxLen; omega) (by omega) hb
  refine ⟨v', w', h1, ?_, World.ownsRow.kept h2 h3 (own2 h h2).2, (Below.refl base w).grown h3 hb (fun k hk => (World.ownsRow.lt h k hk).1)⟩
  unfold OwnS OwnC
  rw [Nat.mul_one, List.range_succ, List.map_append]
  rw [Nat.mul_one] at h2'
  exact h2'
theorem wp_addStr2 {w : World} {ops : Array Oper} {rest : List Oper} {o : Oper} {a : Act} {Q : Exit → Act → World → Prop} (hgd : o.guard = none) (sl x : Operand)
    (ho : o.op = .call { callee := .builtin .append, args := #[sl, x], argTypes := #[23, 23] })
    (base : Nat) (v : Value) (n : Nat) (s : Nat → ByteArray) {y : Value} {m : Nat} {d : Nat → Value} (hs : a.eval sl = v) (h : OwnS w base v n s) (h2 : OwnC w base 36 2 y m d) (g : Nat) (hg : w.cell? ⟨g, 0, none⟩ = some (.string (s n))) (hx : a.eval x = .slice (some ⟨g, 0, none⟩) 1 1) (hl : n + 1 ≤ 10000000) (hb : base ≤ w.heap.size)
    (hK : ∀ v' w', OwnS w' base v' (n + 1) s → OwnC w' base 36 2 y m d → Below base w w' → wpList Tryz.prog ops Q rest (a.put o.dst v') w') : wpList Tryz.prog ops Q (o :: rest) a w := by
  refine wpList_plain hgd fun K hK' => ?_
  obtain ⟨v', w', hr, h3, h4, h5⟩ := h.add2 h2 g hg o.type hl hb
  unfold Oper.wp execOp
  simp only [ho, resolve, invoke, builtin, Sem.run_bind, Sem.run_pure, Result.andThen_ok, List.map_toArray, List.map_cons, List.map_nil, hs, hx, hr]
  exact hK' _ _ (hK v' w' h3 h4 h5)
theorem OwnF.add2 {w : World} {base : Nat} {x y : Value} {n m : Nat} {u v : Nat → ByteArray} {d : Nat → Value} (h : OwnF w base x n u v) (h2 : OwnC w base 22 1 y m d) (g : Nat) (hg : w.cell? ⟨g, 0, none⟩ = some (.string (u n))) (hg1 : w.cell? ⟨g, 1, none⟩ = some (.string (v n))) (ty : TypeId) (hs : n + 1 ≤ 10000000) (hb : base ≤ w.heap.size) :
    ∃ v' w', (Builtin.append_ #[29, 29] ty #[x, .slice (some ⟨g, 0, none⟩) 1 1]).run Tryz.prog w = .ok v' w' ∧ OwnF w' base v' (n + 1) u v ∧ OwnC w' base 22 1 y m d ∧ Below base w w' := by
  obtain ⟨i0, hi, hz0, hz1, hz2⟩ := info_parts info_Frac
  obtain ⟨v', w', h1, h2', h3, _⟩ := run_append_own (P := Tryz.prog) w base 29 ty 36 i0 (.agg #[.string ⟨#[]⟩, .string ⟨#[]⟩]) 2 32 Tryz.underlying29 hi hz0 hz1 hz2 rfl (by decide) x n _ h ⟨g, 0, none⟩ 1 1 [.string (u n), .string (v n)] rfl
    (fun j y hj => by
      match j, hj with
      | 0, hj => simp at hj; subst hj; simpa [Addr.add] using hg
      | 1, hj => simp at hj; subst hj; simpa [Addr.add] using hg1
      | j + 2, hj => simp at hj)
    (fun y hy => by simp at hy; rcases hy with rfl | rfl <;> rfl) (by unfold maxLen; omega) (by omega) hb
  refine ⟨v', w', h1, ?_, World.ownsRow.kept h2 h3 (own2 h2 h).1, (Below.refl base w).grown h3 hb (fun k hk => (World.ownsRow.lt h k hk).1)⟩
  unfold OwnF OwnC
  rw [show (n + 1) * 2 = n * 2 + 1 + 1 by omega, List.range_succ, List.range_succ, List.map_append, List.map_append, List.append_assoc]
  have e1 : (n * 2) % 2 = 0 := by omega
  have e2 : (n * 2) / 2 = n := by omega
  have e3 : (n * 2 + 1) % 2 ≠ 0 := by omega
  have e4 : (n * 2 + 1) / 2 = n := by omega
  simp only [List.map_cons, List.map_nil, if_pos e1, e2, if_neg e3, e4]
  exact h2'
theorem wp_addFrac2 {w : World} {ops : Array Oper} {rest : List Oper} {o : Oper} {a : Act} {Q : Exit → Act → World → Prop} (hgd : o.guard = none) (sl x : Operand)
    (ho : o.op = .call { callee := .builtin .append, args := #[sl, x], argTypes := #[29, 29] })
    (base : Nat) (v : Value) (n : Nat) (p q : Nat → ByteArray) {y : Value} {m : Nat} {d : Nat → Value} (hs : a.eval sl = v) (h : OwnF w base v n p q) (h2 : OwnC w base 22 1 y m d) (g : Nat) (hg : w.cell? ⟨g, 0, none⟩ = some (.string (p n))) (hg1 : w.cell? ⟨g, 1, none⟩ = some (.string (q n))) (hx : a.eval x = .slice (some ⟨g, 0, none⟩) 1 1) (hl : n + 1 ≤ 10000000) (hb : base ≤ w.heap.size)
    (hK : ∀ v' w', OwnF w' base v' (n + 1) p q → OwnC w' base 22 1 y m d → Below base w w' → wpList Tryz.prog ops Q rest (a.put o.dst v') w') : wpList Tryz.prog ops Q (o :: rest) a w := by
  refine wpList_plain hgd fun K hK' => ?_
  obtain ⟨v', w', hr, h3, h4, h5⟩ := h.add2 h2 g hg hg1 o.type hl hb
  unfold Oper.wp execOp
  simp only [ho, resolve, invoke, builtin, Sem.run_bind, Sem.run_pure, Result.andThen_ok, List.map_toArray, List.map_cons, List.map_nil, hs, hx, hr]
  exact hK' _ _ (hK v' w' h3 h4 h5)

end Go.Proofs.YthhihdihkddakaaGreatDoor
