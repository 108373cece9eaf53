/- The reference implementation of layer 3: mode, places, power, even, digits, divided: the walks. -/
import Derived.Test.YthhihdihkddakaaGreatDoorDE
import Derived.Test.YthhihdihkddakaaGreatDoorME
import Derived.Deep.DeepCutAuto
import Derived.Laws.NewBlocks
namespace Go.Proofs.YthhihdihkddakaaGreatDoor
open Go.RowKit Fra

def okM (n : Int) : Bool := decide (1 ≤ n ∧ n ≤ 6)
theorem okM_true {n : Int} (h1 : 1 ≤ n) (h2 : n ≤ 6) : okM n = true := decide_eq_true ⟨h1, h2⟩
theorem okM_false {n : Int} (h : n < 1 ∨ 6 < n) : okM n = false := decide_eq_false (fun k => by omega)
theorem kMode (n : Int) (w : World) :
    Calls Tryz.prog 126 #[.int .i64 n] w fun e w' => e = .returned (.bool (okM n)) ∧ w = w' := by
  by_cases h1 : 1 ≤ n
  · by_cases h2 : n ≤ 6
    · have HD := Lib.hid (okM_true h1 h2)
      go_enter Tryz.func126, Tryz.ntmps126
      go_wp2_with fail
      go_ret
      exact ⟨by rw [HD.out]; rfl, rfl⟩
    · have HD := Lib.hid (okM_false (n := n) (by omega))
      go_enter Tryz.func126, Tryz.ntmps126
      go_wp2_with fail
      go_ret
      exact ⟨by rw [HD.out]; rfl, rfl⟩
  · have HD := Lib.hid (okM_false (n := n) (by omega))
    go_enter Tryz.func126, Tryz.ntmps126
    go_wp2_with fail
    go_ret
    exact ⟨by rw [HD.out]; rfl, rfl⟩
/-! ### even -/
theorem decDigits_last (n : Nat) : ∃ l, Lib.decDigits n = l ++ [UInt8.ofNat (48 + n % 10)] := by
  by_cases h : n < 10
  · exact ⟨[], by rw [Lib.decDigits_one h, Nat.mod_eq_of_lt h]; rfl⟩
  · exact ⟨Lib.decDigits (n / 10), by conv => lhs; rw [Lib.decDigits, dif_neg h]⟩
theorem cS_last {z : Int} (h : z ≠ 0) : ∃ l : List UInt8, (cS z).data.toList = l ++ [UInt8.ofNat (48 + z.natAbs % 10)] := by
  obtain ⟨l, hl⟩ := decDigits_last z.natAbs
  have e : Num.digs z.natAbs = Lib.decDigits z.natAbs := by unfold Num.digs; rw [if_neg (by omega)]
  unfold cS Num.canon
  by_cases hn : z < 0
  · rw [if_pos hn, e, hl]; exact ⟨45 :: l, rfl⟩
  · rw [if_neg hn, e, hl]; exact ⟨l, rfl⟩
set_option maxHeartbeats 1000000 in
theorem kEven {s : ByteArray} {z : Int} (w : World) (hs : s.size ≤ 4294967296) (hz : vS s = z) :
    Calls Tryz.prog 163 #[.string s] w fun e w' => e = .returned (.bool (decide (z % 2 = 0))) ∧ w = w' := by
  have HC := Lib.hid (show ∀ W, Calls Tryz.prog 125 #[.string s] W fun e w' => e = .returned (.string (cS z)) ∧ W = w' from fun W => by rw [← hz]; exact rCanonical_any s W hs)
  by_cases h0 : z = 0
  · have HZ := Lib.hid (show cS z = ⟨#[]⟩ by rw [h0, cS_zero])
    have HD := Lib.hid (show decide (z % 2 = 0) = true from decide_eq_true (by omega))
    clear h0 hz
    go_enter Tryz.func163, Tryz.ntmps163
    go_wp2_with fail
    refine (HC.out w).mono ?_
    rintro _ _ ⟨rfl, rfl⟩
    rw [HZ.out]
    go_wp2_with fail
    go_ret
    exact ⟨by rw [HD.out]; rfl, rfl⟩
  · obtain ⟨l, hl⟩ := cS_last h0
    have hsz : (cS z).size ≤ s.size + 1 := cS_size (by rw [← hz]; exact vS_lt s)
    have hne : ((cS z).toList.isEmpty) = false := by rw [eq_nil]; exact decide_eq_false h0
    obtain ⟨t, ht⟩ : ∃ t, t = cS z := ⟨_, rfl⟩
    have HT := Lib.hid ht
    rw [← ht] at hl hne hsz
    have hls : t.size = l.length + 1 := by rw [← size_toList, hl]; simp
    have hlt : l.length < t.size := by omega
    have hby : ((t[l.length]'hlt).toNat : Int) = 48 + (z.natAbs % 10 : Nat) := by
      have h1 := byte_at t l.length hlt (by rw [size_toList]; exact hlt)
      rw [← h1]
      have h2 : t.data.toList[l.length]'(by rw [size_toList]; exact hlt) = UInt8.ofNat (48 + z.natAbs % 10) := by
        simp only [hl]
        rw [List.getElem_append_right (Nat.le_refl _)]
        simp
      rw [h2, Num.ofNat_dig _ (Nat.mod_lt _ (by decide))]
      omega
    obtain ⟨d, hd⟩ : ∃ d : Int, d = (z.natAbs % 10 : Nat) := ⟨_, rfl⟩
    rw [← hd] at hby
    have hd0 : 0 ≤ d := by omega
    have hd9 : d ≤ 9 := by have := Nat.mod_lt z.natAbs (show 0 < 10 by decide); omega
    have hw1 : IntKind.i64.wrap ((t.size : Int) - 1) = (l.length : Int) := by rw [IntWalk.i64_in _ (by omega)]; omega
    have hl0 : (0 : Int) ≤ (l.length : Int) := by omega
    have hl1 : (l.length : Int) < t.size := by omega
    have HP := Lib.hid (show d % 2 = z % 2 by omega)
    have HH := Lib.hid hby
    have HW := Lib.hid (show IntKind.u8.wrap (48 + d - 48) = d by rw [show 48 + d - 48 = d by omega]; exact IntWalk.u8_in _ (by omega))
    have HX := Lib.hid hls
    clear h0 hz ht hl hd hls hby
    go_enter Tryz.func163, Tryz.ntmps163
    go_wp2_with fail
    refine (HC.out w).mono ?_
    rintro _ _ ⟨rfl, rfl⟩
    rw [← HT.out]
    have hby := HH.out
    have hw8 := HW.out
    go_wp2_with fail
    go_ret
    exact ⟨by show Ending.returned (.bool (d % 2 == 0)) = _; rw [HP.out]; rfl, rfl⟩

/-! ### digits -/
def digsB (l : List UInt8) : Bool := l.all Num.isDig && !l.isEmpty
/-! ### divided -/
end Go.Proofs.YthhihdihkddakaaGreatDoor

/- The reference implementation of layer 3: TextOf, Text: the walks. -/
namespace Go.Proofs.YthhihdihkddakaaGreatDoor
open Go.RowKit Fra

/-- what TextOf has put together when its digits are long enough -/
structure PadAt (z : Int) (n : Nat) (r A G : ByteArray) (L : Nat) : Prop where
  size : r.size = L + n
  pos : 0 < L
  eA : r.extract 0 L = A
  eG : r.extract L r.size = G
  AL : A.data.toList = Lib.decDigits (z.natAbs / 10 ^ n)
  GL : G.data.toList = Num.fixd n z.natAbs
theorem PadAt.of {z : Int} {n j : Nat} {r : ByteArray} (hr : r.data.toList = List.replicate j 48 ++ Num.digs z.natAbs) (hj : j = 0 ∨ r.size ≤ n + 1) (hx : n + 1 ≤ r.size) : ∃ A G L, PadAt z n r A G L := by
  have hs : r.size = j + (Num.digs z.natAbs).length := by rw [← size_toList, hr]; simp
  have hj2 : j = n + 1 - (Num.digs z.natAbs).length := by omega
  have hl : r.data.toList = Lib.decDigits (z.natAbs / 10 ^ n) ++ Num.fixd n z.natAbs := by rw [← Num.pad_split, hr, hj2]
  have h1 := Num.at_point z.natAbs n
  rw [← hl, size_toList] at h1
  obtain ⟨L, hL⟩ : ∃ L, L = (Lib.decDigits (z.natAbs / 10 ^ n)).length := ⟨_, rfl⟩
  refine ⟨_, _, L, by omega, by rw [hL]; exact List.length_pos_iff.mpr (Num.decDigits_ne _), rfl, rfl, ?_, ?_⟩
  · rw [ByteArray.data_extract, Array.toList_extract, List.extract_eq_take_drop, hl, hL]
    simp
  · rw [ByteArray.data_extract, Array.toList_extract, List.extract_eq_take_drop, hl, show r.size = L + n by omega, hL]
    simp
    rw [List.take_of_length_le (by rw [Num.fixd_length]; exact Nat.le_refl _)]
theorem text_list {z : Int} {n : Nat} {r A G : ByteArray} {L : Nat} (h : PadAt z n r A G L) (hn : n ≠ 0) : (if z < 0 then [45] else []) ++ (A.data.toList ++ 46 :: G.data.toList) = (txt z n).data.toList := by
  rw [txt_list, Num.decT_list, if_neg hn, h.AL, h.GL]
theorem text_list0 {z : Int} {r A G : ByteArray} {L : Nat} (h : PadAt z 0 r A G L) : (if z < 0 then [45] else []) ++ r.data.toList = (txt z 0).data.toList := by
  rw [txt_list, Num.decT_list, if_pos rfl, ← h.AL, ← h.eA]
  have e : L = r.size := by have := h.size; omega
  rw [e]
  simp
theorem digs_cap {z : Int} {k : Nat} (h : Cap k z) : (Num.digs z.natAbs).length ≤ k + 1 := by
  unfold Num.digs
  split
  · simp
  · exact digits_len h

end Go.Proofs.YthhihdihkddakaaGreatDoor

/- The reference implementation of layer 3: RoundTo, Round, Scale, Format: the walks. -/
namespace Go.Proofs.YthhihdihkddakaaGreatDoor
open Go.RowKit Fra

theorem round_ways {m q r d z c cn : Int} (hr : r ≠ 0) (h1 : 1 ≤ m) (h6 : m ≤ 6) (hc : cmp3 (2 * r) d = c) (hcn : cn < 0 ↔ q < 0) (hz : rndR m q r d = z) :
    (m = 1 ∧ (0 < c) ∧ q + 1 = z) ∨ (m = 1 ∧ (c = 0 ∧ q % 2 = 1) ∧ q + 1 = z) ∨ (m = 1 ∧ (c = 0 ∧ q % 2 = 0) ∧ q = z) ∨ (m = 1 ∧ (c < 0) ∧ q = z) ∨ (m = 2 ∧ (0 < c) ∧ q + 1 = z) ∨ (m = 2 ∧ (c = 0 ∧ ¬ cn < 0) ∧ q + 1 = z) ∨ (m = 2 ∧ (c = 0 ∧ cn < 0) ∧ q = z) ∨ (m = 2 ∧ (c < 0) ∧ q = z) ∨ (m = 3 ∧ (cn < 0) ∧ q + 1 = z) ∨ (m = 3 ∧ (¬ cn < 0) ∧ q = z) ∨ (m = 4 ∧ (¬ cn < 0) ∧ q + 1 = z) ∨ (m = 4 ∧ (cn < 0) ∧ q = z) ∨ (m = 5 ∧ (True) ∧ q = z) ∨ (m = 6 ∧ (True) ∧ q + 1 = z) := by
  rw [rndR_up, if_neg hr, hc] at hz
  clear hr hc
  have hw : m = 1 ∨ m = 2 ∨ m = 3 ∨ m = 4 ∨ m = 5 ∨ m = 6 := by omega
  clear h1 h6
  rcases hw with rfl | rfl | rfl | rfl | rfl | rfl
  · rw [show upB 1 q c = decide (0 < c ∨ (c = 0 ∧ q % 2 = 1)) from decide_eq_decide.2 (by omega)] at hz
    rcases (show (0 < c) ∨ (c = 0 ∧ q % 2 = 1) ∨ (c = 0 ∧ q % 2 = 0) ∨ (c < 0) by omega) with h | h | h | h
    · exact Or.inl ⟨rfl, h, by rw [if_pos (by rw [decide_eq_true_eq]; omega)] at hz; exact hz⟩
    · exact Or.inr (Or.inl ⟨rfl, h, by rw [if_pos (by rw [decide_eq_true_eq]; omega)] at hz; exact hz⟩)
    · exact Or.inr (Or.inr (Or.inl ⟨rfl, h, by rw [if_neg (by rw [decide_eq_true_eq]; omega)] at hz; exact hz⟩))
    · exact Or.inr (Or.inr (Or.inr (Or.inl ⟨rfl, h, by rw [if_neg (by rw [decide_eq_true_eq]; omega)] at hz; exact hz⟩)))
  · rw [show upB 2 q c = decide (0 < c ∨ (c = 0 ∧ 0 ≤ q)) from decide_eq_decide.2 (by omega)] at hz
    rcases (show (0 < c) ∨ (c = 0 ∧ ¬ cn < 0) ∨ (c = 0 ∧ cn < 0) ∨ (c < 0) by omega) with h | h | h | h
    · exact Or.inr (Or.inr (Or.inr (Or.inr (Or.inl ⟨rfl, h, by rw [if_pos (by rw [decide_eq_true_eq]; omega)] at hz; exact hz⟩))))
    · exact Or.inr (Or.inr (Or.inr (Or.inr (Or.inr (Or.inl ⟨rfl, h, by rw [if_pos (by rw [decide_eq_true_eq]; omega)] at hz; exact hz⟩)))))
    · exact Or.inr (Or.inr (Or.inr (Or.inr (Or.inr (Or.inr (Or.inl ⟨rfl, h, by rw [if_neg (by rw [decide_eq_true_eq]; omega)] at hz; exact hz⟩))))))
    · exact Or.inr (Or.inr (Or.inr (Or.inr (Or.inr (Or.inr (Or.inr (Or.inl ⟨rfl, h, by rw [if_neg (by rw [decide_eq_true_eq]; omega)] at hz; exact hz⟩)))))))
  · rw [show upB 3 q c = decide (q < 0) from decide_eq_decide.2 (by omega)] at hz
    rcases (show (cn < 0) ∨ (¬ cn < 0) by omega) with h | h
    · exact Or.inr (Or.inr (Or.inr (Or.inr (Or.inr (Or.inr (Or.inr (Or.inr (Or.inl ⟨rfl, h, by rw [if_pos (by rw [decide_eq_true_eq]; omega)] at hz; exact hz⟩))))))))
    · exact Or.inr (Or.inr (Or.inr (Or.inr (Or.inr (Or.inr (Or.inr (Or.inr (Or.inr (Or.inl ⟨rfl, h, by rw [if_neg (by rw [decide_eq_true_eq]; omega)] at hz; exact hz⟩)))))))))
  · rw [show upB 4 q c = decide (0 ≤ q) from decide_eq_decide.2 (by omega)] at hz
    rcases (show (¬ cn < 0) ∨ (cn < 0) by omega) with h | h
    · exact Or.inr (Or.inr (Or.inr (Or.inr (Or.inr (Or.inr (Or.inr (Or.inr (Or.inr (Or.inr (Or.inl ⟨rfl, h, by rw [if_pos (by rw [decide_eq_true_eq]; omega)] at hz; exact hz⟩))))))))))
    · exact Or.inr (Or.inr (Or.inr (Or.inr (Or.inr (Or.inr (Or.inr (Or.inr (Or.inr (Or.inr (Or.inr (Or.inl ⟨rfl, h, by rw [if_neg (by rw [decide_eq_true_eq]; omega)] at hz; exact hz⟩)))))))))))
  · exact Or.inr (Or.inr (Or.inr (Or.inr (Or.inr (Or.inr (Or.inr (Or.inr (Or.inr (Or.inr (Or.inr (Or.inr (Or.inl ⟨rfl, trivial, by simpa [upB] using hz⟩))))))))))))
  · exact Or.inr (Or.inr (Or.inr (Or.inr (Or.inr (Or.inr (Or.inr (Or.inr (Or.inr (Or.inr (Or.inr (Or.inr (Or.inr (⟨rfl, trivial, by simpa [upB] using hz⟩)))))))))))))

set_option maxRecDepth 100000 in
set_option maxHeartbeats 16000000 in
theorem kRoundTo_e {fn fd : ByteArray} {m z : Int} (hn : fn.size ≤ 300) (hd : fd.size ≤ 300) (h0 : rest (raw fn fd) = 0) (hz : rnd m (raw fn fd) = z) : Ret 127 #[.agg #[.string fn, .string fd], .int .i64 m] (.string (cS z)) := by
  intro w hG
  obtain ⟨x, hx⟩ : ∃ x, raw fn fd = x := ⟨_, rfl⟩
  have hxp : 0 < x.2 := by rw [← hx]; exact raw_pos _ _
  have hcx : CapP 300 x := by rw [← hx]; exact CapP.of_raw (by decide) hn hd
  obtain ⟨q, hq⟩ : ∃ q, Int.fdiv x.1 x.2 = q := ⟨_, rfl⟩
  have hcq : Cap 301 q := by rw [← hq]; exact Cap.fdiv' hcx.1 hxp
  have hqs : (cS q).size ≤ 302 := cS_size hcq
  have hrq : raw (cS q) ⟨#[]⟩ = (q, 1) := by unfold raw; rw [vS_cS, vS_nil]; rfl
  obtain ⟨D, hD⟩ : ∃ D, addP x (negP (q, 1)) = D := ⟨_, rfl⟩
  have hDp : 0 < D.2 := by rw [← hD]; exact addP_pos hxp (negP_pos (x := (q, 1)) Int.one_pos)
  have hDs : (cS D.1).size ≤ 400 ∧ (cD D.2).size ≤ 400 := by
    have h1 : Same D (rest x, x.2) := by rw [← hD, ← hq]; exact rest_same
    have h2 := rest_bounds hxp
    have h3 : D = low (rest x, x.2) := by
      have h4 : Low D := by rw [← hD]; exact Low.of_addP hxp (negP_pos (x := (q, 1)) Int.one_pos)
      rw [← h4.eq]
      exact low_eq hDp hxp h1
    have h5 : CapP 300 (low (rest x, x.2)) := CapP.low ⟨by have := hcx.2; unfold Cap at *; omega, hcx.2⟩ hxp
    rw [h3]
    have h6 := cS_size h5.1
    have h7 := cD_size h5.2
    omega
  have HFL := Lib.hid (show Ret 52 #[.agg #[.string fn, .string fd]] (.string (cS q)) from fun W hW => by have := qFloor_any fn fd W hW (by omega) (by omega); rwa [hx, hq] at this)
  have HOQ := Lib.hid (show Ret 54 #[.string (cS q)] (.agg #[.string (cS q), .string ⟨#[]⟩]) from fun W _ => qOf_any W (by omega) (vS_cS q))
  have HSU := Lib.hid (show Ret 53 #[.agg #[.string fn, .string fd], .agg #[.string (cS q), .string ⟨#[]⟩]] (.agg #[.string (cS D.1), .string (cD D.2)]) from fun W hW => by
    have h := qSub_any fn fd (cS q) ⟨#[]⟩ W hW (by omega) (by omega) (by omega) (by decide)
    rw [hx, hrq, hD] at h
    exact h)
  have HOZ := Lib.hid (show Ret 54 #[.string ⟨#[]⟩] (.agg #[.string ⟨#[]⟩, .string ⟨#[]⟩]) from fun W _ => by
    have h := qOf_any (a := ⟨#[]⟩) (x := 0) W (by decide) vS_nil
    rwa [cS_zero] at h)
  have hrD : raw (cS D.1) (cD D.2) = D := raw_can hDp
  have e0 : cmpP D (0, 1) = cmp3 (rest x) 0 := by rw [← hD, ← hq]; exact rest_cmp0 hxp
  have HC0 := Lib.hid (show Ret 58 #[.agg #[.string (cS D.1), .string (cD D.2)], .agg #[.string ⟨#[]⟩, .string ⟨#[]⟩]] (.int .i64 (cmp3 (rest x) 0)) from fun W hW => by
    have h := qCompare_any (cS D.1) (cD D.2) ⟨#[]⟩ ⟨#[]⟩ W hW hDs.1 hDs.2 (by decide) (by decide)
    rw [hrD, raw_nil, e0] at h
    exact h)
  rw [hx] at h0 hz
  have HZ := Lib.hid (show cmp3 (rest x) 0 = 0 by rw [h0]; rfl)
  have hqz : q = z := by rw [← hz, ← hq]; unfold rnd rndR; rw [if_pos h0]
  subst hqz
  clear hn hd hx hxp hcx hq hcq hqs hrq hD hDp hDs hrD h0 hz
  obtain ⟨W0, hW0⟩ : ∃ W0, W0 = w.alloc (.cells #[.string fn, .string fd] 36) := ⟨_, rfl⟩
  have hS : StL w W0 [(w.heap.size, fn, fd)] := by rw [hW0]; exact StL.one hG _ _
  go_enter Tryz.func127, Tryz.ntmps127
  go_upto_region 1 with fail
  rw [← hW0]
  clear hW0
  obtain ⟨fp0, _⟩ := hS.box
  obtain ⟨fx0, fy0, _, _⟩ := fp0.cells
  go_wp2_with fail
  clear fp0 fx0 fy0
  refine Calls.mono (Ret.call HFL.out _ hS.g) ?_
  rintro _ w1 ⟨rfl, hB⟩
  replace hS := hS.next hB
  clear hB
  obtain ⟨fp0, _⟩ := hS.box
  obtain ⟨fx0, fy0, _, _⟩ := fp0.cells
  go_upto_region 2 with fail
  clear fp0 fx0 fy0
  obtain ⟨fp0, _⟩ := hS.box
  obtain ⟨fx0, fy0, _, _⟩ := fp0.cells
  try go_upto_region 2 with fail
  have HS := Lib.hid hS
  clear hS
  have hne0 : w1.heap.size ≠ w.heap.size := World.new_ne w1 _ fx0
  have hle0_0 : w.heap.size < w1.heap.size := fp0.lt
  go_cut [6] (fun s6 wx => ∃ b1_0 : Nat, s6 = .pointer (some ⟨b1_0, 0, none⟩) ∧ StL w wx [(b1_0, (cS D.1), (cD D.2)), (w.heap.size, fn, fd)])
  case first =>
    go_region_held3 (fun w' => w'.cell? ⟨w.heap.size, 0, none⟩ = some (.string fn) ∧ w'.cell? ⟨w.heap.size, 1, none⟩ = some (.string fd))
      (go_keep)
      (first
    | (go_at_call 54;
         (with_reducible refine Calls.mono (Ret.call HOQ.out _ (by first | exact HS.out.g | exact HS.out.drew.g | exact (HS.out.drewN _).g | exact (HS.out.other _).g | exact (HS.out.drew.other _).g | exact (HS.out.other _).drew.g | exact ((HS.out.other _).other _).g | exact ((HS.out.drew.other _).other _).g | exact ((HS.out.other _).other _).drew.g | exact ((HS.out.drew.other _).drew.other _).g | exact ((HS.out.other _).drew.other _).g)) ?_);
         (rintro e X1_1 ⟨rfl, hB1⟩);
         (first
           | ((have HS2 : StL w X1_1 ([(w.heap.size, fn, fd)]) := (by first | exact HS.out.next hB1 | exact HS.out.next1 hB1 | exact HS.out.nextD hB1 | exact (HS.out.alloc _ _).next hB1 | exact (HS.out.drew.alloc _ _).next hB1 | exact (HS.out.alloc _ _).drew.next hB1 | exact (HS.out.alloc2 _ _ _ _).next hB1 | exact (HS.out.drew.alloc2 _ _ _ _).next hB1 | exact (HS.out.alloc2 _ _ _ _).drew.next hB1)); (replace HS := Lib.hid HS2); (clear HS2); (obtain ⟨fp0, _⟩ := HS.out.box); (obtain ⟨fx0, fy0, _, _⟩ := fp0.cells); (have hle0_1 : w.heap.size < X1_1.heap.size := fp0.lt))
           | ((have HS2 : StL w X1_1 ((w1.heap.size, ⟨#[]⟩, ⟨#[]⟩) :: [(w.heap.size, fn, fd)]) := (by first | exact HS.out.next hB1 | exact HS.out.next1 hB1 | exact HS.out.nextD hB1 | exact (HS.out.alloc _ _).next hB1 | exact (HS.out.drew.alloc _ _).next hB1 | exact (HS.out.alloc _ _).drew.next hB1 | exact (HS.out.alloc2 _ _ _ _).next hB1 | exact (HS.out.drew.alloc2 _ _ _ _).next hB1 | exact (HS.out.alloc2 _ _ _ _).drew.next hB1)); (replace HS := Lib.hid HS2); (clear HS2); (obtain ⟨pn0, fp0, _⟩ := HS.out.box); (obtain ⟨nx0, ny0, nz0, nw0⟩ := pn0.cells); (have hnp0 : X1_1.heap.size ≠ w1.heap.size := World.new_ne _ _ nx0); (have hnq0 : w1.heap.size < X1_1.heap.size := pn0.lt); (obtain ⟨fx0, fy0, _, _⟩ := fp0.cells); (have hle0_1 : w.heap.size < X1_1.heap.size := fp0.lt); (have hnr0_0 : w1.heap.size ≠ w.heap.size := (by omega))));
         (clear hB1);
         (have hne0 : X1_1.heap.size ≠ w.heap.size := World.new_ne X1_1 _ fx0))
    | (go_at_call 53;
         (with_reducible refine Calls.mono (Ret.call HSU.out _ (by first | exact HS.out.g | exact HS.out.drew.g | exact (HS.out.drewN _).g | exact (HS.out.other _).g | exact (HS.out.drew.other _).g | exact (HS.out.other _).drew.g | exact ((HS.out.other _).other _).g | exact ((HS.out.drew.other _).other _).g | exact ((HS.out.other _).other _).drew.g | exact ((HS.out.drew.other _).drew.other _).g | exact ((HS.out.other _).drew.other _).g)) ?_);
         (rintro e X1_2 ⟨rfl, hB1⟩);
         (first
           | ((have HS2 : StL w X1_2 ([(w.heap.size, fn, fd)]) := (by first | exact HS.out.next hB1 | exact HS.out.next1 hB1 | exact HS.out.nextD hB1 | exact (HS.out.alloc _ _).next hB1 | exact (HS.out.drew.alloc _ _).next hB1 | exact (HS.out.alloc _ _).drew.next hB1 | exact (HS.out.alloc2 _ _ _ _).next hB1 | exact (HS.out.drew.alloc2 _ _ _ _).next hB1 | exact (HS.out.alloc2 _ _ _ _).drew.next hB1)); (replace HS := Lib.hid HS2); (clear HS2); (obtain ⟨fp0, _⟩ := HS.out.box); (obtain ⟨fx0, fy0, _, _⟩ := fp0.cells); (have hle0_2 : w.heap.size < X1_2.heap.size := fp0.lt))
           | ((have HS2 : StL w X1_2 ((X1_1.heap.size, ⟨#[]⟩, ⟨#[]⟩) :: [(w.heap.size, fn, fd)]) := (by first | exact HS.out.next hB1 | exact HS.out.next1 hB1 | exact HS.out.nextD hB1 | exact (HS.out.alloc _ _).next hB1 | exact (HS.out.drew.alloc _ _).next hB1 | exact (HS.out.alloc _ _).drew.next hB1 | exact (HS.out.alloc2 _ _ _ _).next hB1 | exact (HS.out.drew.alloc2 _ _ _ _).next hB1 | exact (HS.out.alloc2 _ _ _ _).drew.next hB1)); (replace HS := Lib.hid HS2); (clear HS2); (obtain ⟨pn0, fp0, _⟩ := HS.out.box); (obtain ⟨nx0, ny0, nz0, nw0⟩ := pn0.cells); (have hnp0 : X1_2.heap.size ≠ X1_1.heap.size := World.new_ne _ _ nx0); (have hnq0 : X1_1.heap.size < X1_2.heap.size := pn0.lt); (obtain ⟨fx0, fy0, _, _⟩ := fp0.cells); (have hle0_2 : w.heap.size < X1_2.heap.size := fp0.lt); (have hnr0_0 : X1_1.heap.size ≠ w.heap.size := (by omega)))
           | ((have HS2 : StL w X1_2 ((w1.heap.size, ⟨#[]⟩, ⟨#[]⟩) :: [(w.heap.size, fn, fd)]) := (by first | exact HS.out.next hB1 | exact HS.out.next1 hB1 | exact HS.out.nextD hB1 | exact (HS.out.alloc _ _).next hB1 | exact (HS.out.drew.alloc _ _).next hB1 | exact (HS.out.alloc _ _).drew.next hB1 | exact (HS.out.alloc2 _ _ _ _).next hB1 | exact (HS.out.drew.alloc2 _ _ _ _).next hB1 | exact (HS.out.alloc2 _ _ _ _).drew.next hB1)); (replace HS := Lib.hid HS2); (clear HS2); (obtain ⟨pn0, fp0, _⟩ := HS.out.box); (obtain ⟨nx0, ny0, nz0, nw0⟩ := pn0.cells); (have hnp0 : X1_2.heap.size ≠ w1.heap.size := World.new_ne _ _ nx0); (have hnq0 : w1.heap.size < X1_2.heap.size := pn0.lt); (obtain ⟨fx0, fy0, _, _⟩ := fp0.cells); (have hle0_2 : w.heap.size < X1_2.heap.size := fp0.lt); (have hnr0_0 : w1.heap.size ≠ w.heap.size := (by omega))));
         (clear hB1);
         (have hne0 : X1_2.heap.size ≠ w.heap.size := World.new_ne X1_2 _ fx0)))
    all_goals go_wp2_with fail
    all_goals go_meet
    all_goals refine ⟨_, rfl, ?_⟩
    all_goals first
      | with_reducible exact HS.out.alloc _ _
      | with_reducible exact StL.fill hG HS.out _ _
      | with_reducible exact (HS.out.alloc _ _).drew
      | with_reducible exact HS.out.drew.alloc _ _
      | with_reducible exact StL.fill hG HS.out.drew _ _
      | with_reducible exact (HS.out.drew.alloc _ _).drew
  clear HS hne0 hle0_0
  clear fp0 fx0 fy0
  obtain ⟨b1_0, rfl, hS⟩ := hcut
  obtain ⟨w2, hw⟩ : ∃ W, W = wc := ⟨_, rfl⟩
  rw [← hw] at hS
  rw [← hw]
  clear hw
  obtain ⟨fp0, fp1, _⟩ := hS.box
  obtain ⟨fx0, fy0, _, _⟩ := fp0.cells
  obtain ⟨fx1, fy1, _, _⟩ := fp1.cells
  go_wp2_with fail
  clear fp0 fx0 fy0 fp1 fx1 fy1
  refine Calls.mono (Ret.call HOZ.out _ hS.g) ?_
  rintro _ w3 ⟨rfl, hB⟩
  replace hS := hS.next hB
  clear hB
  go_upto_region 4 with fail
  obtain ⟨b4, hb4⟩ : ∃ b, b = w3.heap.size := ⟨_, rfl⟩
  obtain ⟨V4, hV4⟩ : ∃ V, V = w3.alloc (.cells #[.string ⟨#[]⟩, .string ⟨#[]⟩] 36) := ⟨_, rfl⟩
  have hT : StL w V4 [(b4, ⟨#[]⟩, ⟨#[]⟩), (b1_0, (cS D.1), (cD D.2)), (w.heap.size, fn, fd)] := by rw [hV4, hb4]; exact hS.alloc _ _
  rw [← hb4, ← hV4]
  clear hV4 hb4 hS
  have hS := hT
  clear hT
  obtain ⟨fp0, fp1, fp2, _⟩ := hS.box
  obtain ⟨fx0, fy0, _, _⟩ := fp0.cells
  obtain ⟨fx1, fy1, _, _⟩ := fp1.cells
  obtain ⟨fx2, fy2, _, _⟩ := fp2.cells
  go_wp2_with fail
  clear fp0 fx0 fy0 fp1 fx1 fy1 fp2 fx2 fy2
  refine Calls.mono (Ret.call HC0.out _ hS.g) ?_
  rintro _ w5 ⟨rfl, hB⟩
  replace hS := hS.next hB
  clear hB
  rw [HZ.out]
  obtain ⟨fp0, fp1, fp2, _⟩ := hS.box
  obtain ⟨fx0, fy0, _, _⟩ := fp0.cells
  obtain ⟨fx1, fy1, _, _⟩ := fp1.cells
  obtain ⟨fx2, fy2, _, _⟩ := fp2.cells
  go_wp2_with fail
  go_ret
  exact ⟨rfl, hS.below⟩
end Go.Proofs.YthhihdihkddakaaGreatDoor

/- The reference implementation of layer 3: RoundTo, Round, Scale, Format: the walks. -/
namespace Go.Proofs.YthhihdihkddakaaGreatDoor
open Go.RowKit Fra

set_option maxRecDepth 100000 in
set_option maxHeartbeats 16000000 in
theorem kRoundTo_r {fn fd : ByteArray} {m z : Int} (hn : fn.size ≤ 300) (hd : fd.size ≤ 300) (h1 : 1 ≤ m) (h6 : m ≤ 6) (h0 : rest (raw fn fd) ≠ 0) (hz : rnd m (raw fn fd) = z) : Ret 127 #[.agg #[.string fn, .string fd], .int .i64 m] (.string (cS z)) := by
  intro w hG
  obtain ⟨x, hx⟩ : ∃ x, raw fn fd = x := ⟨_, rfl⟩
  have hxp : 0 < x.2 := by rw [← hx]; exact raw_pos _ _
  have hcx : CapP 300 x := by rw [← hx]; exact CapP.of_raw (by decide) hn hd
  obtain ⟨q, hq⟩ : ∃ q, Int.fdiv x.1 x.2 = q := ⟨_, rfl⟩
  have hcq : Cap 301 q := by rw [← hq]; exact Cap.fdiv' hcx.1 hxp
  have hqs : (cS q).size ≤ 302 := cS_size hcq
  have hrq : raw (cS q) ⟨#[]⟩ = (q, 1) := by unfold raw; rw [vS_cS, vS_nil]; rfl
  obtain ⟨D, hD⟩ : ∃ D, addP x (negP (q, 1)) = D := ⟨_, rfl⟩
  have hDp : 0 < D.2 := by rw [← hD]; exact addP_pos hxp (negP_pos (x := (q, 1)) Int.one_pos)
  have hDs : (cS D.1).size ≤ 400 ∧ (cD D.2).size ≤ 400 := by
    have h1 : Same D (rest x, x.2) := by rw [← hD, ← hq]; exact rest_same
    have h2 := rest_bounds hxp
    have h3 : D = low (rest x, x.2) := by
      have h4 : Low D := by rw [← hD]; exact Low.of_addP hxp (negP_pos (x := (q, 1)) Int.one_pos)
      rw [← h4.eq]
      exact low_eq hDp hxp h1
    have h5 : CapP 300 (low (rest x, x.2)) := CapP.low ⟨by have := hcx.2; unfold Cap at *; omega, hcx.2⟩ hxp
    rw [h3]
    have h6 := cS_size h5.1
    have h7 := cD_size h5.2
    omega
  have HFL := Lib.hid (show Ret 52 #[.agg #[.string fn, .string fd]] (.string (cS q)) from fun W hW => by have := qFloor_any fn fd W hW (by omega) (by omega); rwa [hx, hq] at this)
  have HOQ := Lib.hid (show Ret 54 #[.string (cS q)] (.agg #[.string (cS q), .string ⟨#[]⟩]) from fun W _ => qOf_any W (by omega) (vS_cS q))
  have HSU := Lib.hid (show Ret 53 #[.agg #[.string fn, .string fd], .agg #[.string (cS q), .string ⟨#[]⟩]] (.agg #[.string (cS D.1), .string (cD D.2)]) from fun W hW => by
    have h := qSub_any fn fd (cS q) ⟨#[]⟩ W hW (by omega) (by omega) (by omega) (by decide)
    rw [hx, hrq, hD] at h
    exact h)
  have HOZ := Lib.hid (show Ret 54 #[.string ⟨#[]⟩] (.agg #[.string ⟨#[]⟩, .string ⟨#[]⟩]) from fun W _ => by
    have h := qOf_any (a := ⟨#[]⟩) (x := 0) W (by decide) vS_nil
    rwa [cS_zero] at h)
  have hrD : raw (cS D.1) (cD D.2) = D := raw_can hDp
  have e0 : cmpP D (0, 1) = cmp3 (rest x) 0 := by rw [← hD, ← hq]; exact rest_cmp0 hxp
  have HC0 := Lib.hid (show Ret 58 #[.agg #[.string (cS D.1), .string (cD D.2)], .agg #[.string ⟨#[]⟩, .string ⟨#[]⟩]] (.int .i64 (cmp3 (rest x) 0)) from fun W hW => by
    have h := qCompare_any (cS D.1) (cD D.2) ⟨#[]⟩ ⟨#[]⟩ W hW hDs.1 hDs.2 (by decide) (by decide)
    rw [hrD, raw_nil, e0] at h
    exact h)
  rw [hx] at h0 hz
  have hrb := rest_bounds hxp
  have HZ := Lib.hid (show cmp3 (rest x) 0 = 1 from cmp3_gt (by omega))
  have HNX := Lib.hid (show Ret 59 #[.string (cS q), .string ⟨#[49]⟩] (.string (cS (q + 1))) from fun W _ => qAdd W (by omega) (by decide) (vS_cS q) vS_one rfl)
  have HHF := Lib.hid (show Ret 63 #[.string ⟨#[49]⟩, .string ⟨#[50]⟩] (fraE ⟨#[49]⟩ ⟨#[50]⟩ 0) from fun W hW => by
    have h := qNew_any (n := ⟨#[49]⟩) (d := ⟨#[50]⟩) (x := 1) (y := 2) W hW (by decide) (by decide) (by decide +kernel) (by decide +kernel) (by decide)
    rw [show cS (redS 1 2).1 = ⟨#[49]⟩ by decide +kernel, show cD (redS 1 2).2 = ⟨#[50]⟩ by decide +kernel] at h
    exact h)
  obtain ⟨c, hc⟩ : ∃ c, cmp3 (2 * rest x) x.2 = c := ⟨_, rfl⟩
  obtain ⟨cn, hcn⟩ : ∃ c, cmpP x (0, 1) = c := ⟨_, rfl⟩
  have e2 : cmpP D (1, 2) = c := by rw [← hD, ← hq, rest_cmp2 hxp]; exact hc
  have HCH := Lib.hid (show Ret 58 #[.agg #[.string (cS D.1), .string (cD D.2)], .agg #[.string ⟨#[49]⟩, .string ⟨#[50]⟩]] (.int .i64 c) from fun W hW => by
    have h := qCompare_any (cS D.1) (cD D.2) ⟨#[49]⟩ ⟨#[50]⟩ W hW hDs.1 hDs.2 (by decide) (by decide)
    rw [hrD, show raw ⟨#[49]⟩ ⟨#[50]⟩ = (1, 2) by decide +kernel, e2] at h
    exact h)
  have HCN := Lib.hid (show Ret 58 #[.agg #[.string fn, .string fd], .agg #[.string ⟨#[]⟩, .string ⟨#[]⟩]] (.int .i64 cn) from fun W hW => by
    have h := qCompare_any fn fd ⟨#[]⟩ ⟨#[]⟩ W hW (by omega) (by omega) (by decide) (by decide)
    rw [hx, raw_nil, hcn] at h
    exact h)
  have HQS := Lib.hid (show (cS q).size ≤ 4294967296 by omega)
  have hsg : cn < 0 ↔ q < 0 := by rw [← hcn, ← hq, cmpP_zero]; exact floor_sign hxp
  have HW := Lib.hid (round_ways (z := z) h0 h1 h6 hc hsg (by rw [← hq]; exact hz))
  clear hn hd hx hxp hcx hq hcq hqs hrq hD hDp hDs hrD h0 hz hrb hc hcn h1 h6 hsg
  obtain ⟨W0, hW0⟩ : ∃ W0, W0 = w.alloc (.cells #[.string fn, .string fd] 36) := ⟨_, rfl⟩
  have hS : StL w W0 [(w.heap.size, fn, fd)] := by rw [hW0]; exact StL.one hG _ _
  go_enter Tryz.func127, Tryz.ntmps127
  go_upto_region 1 with fail
  rw [← hW0]
  clear hW0
  obtain ⟨fp0, _⟩ := hS.box
  obtain ⟨fx0, fy0, _, _⟩ := fp0.cells
  go_wp2_with fail
  clear fp0 fx0 fy0
  refine Calls.mono (Ret.call HFL.out _ hS.g) ?_
  rintro _ w1 ⟨rfl, hB⟩
  replace hS := hS.next hB
  clear hB
  obtain ⟨fp0, _⟩ := hS.box
  obtain ⟨fx0, fy0, _, _⟩ := fp0.cells
  go_upto_region 2 with fail
  clear fp0 fx0 fy0
  obtain ⟨fp0, _⟩ := hS.box
  obtain ⟨fx0, fy0, _, _⟩ := fp0.cells
  try go_upto_region 2 with fail
  have HS := Lib.hid hS
  clear hS
  have hne0 : w1.heap.size ≠ w.heap.size := World.new_ne w1 _ fx0
  have hle0_0 : w.heap.size < w1.heap.size := fp0.lt
  go_cut [6] (fun s6 wx => ∃ b1_0 : Nat, s6 = .pointer (some ⟨b1_0, 0, none⟩) ∧ StL w wx [(b1_0, (cS D.1), (cD D.2)), (w.heap.size, fn, fd)])
  case first =>
    go_region_held3 (fun w' => w'.cell? ⟨w.heap.size, 0, none⟩ = some (.string fn) ∧ w'.cell? ⟨w.heap.size, 1, none⟩ = some (.string fd))
      (go_keep)
      (first
    | (go_at_call 54;
         (with_reducible refine Calls.mono (Ret.call HOQ.out _ (by first | exact HS.out.g | exact HS.out.drew.g | exact (HS.out.drewN _).g | exact (HS.out.other _).g | exact (HS.out.drew.other _).g | exact (HS.out.other _).drew.g | exact ((HS.out.other _).other _).g | exact ((HS.out.drew.other _).other _).g | exact ((HS.out.other _).other _).drew.g | exact ((HS.out.drew.other _).drew.other _).g | exact ((HS.out.other _).drew.other _).g)) ?_);
         (rintro e X1_1 ⟨rfl, hB1⟩);
         (first
           | ((have HS2 : StL w X1_1 ([(w.heap.size, fn, fd)]) := (by first | exact HS.out.next hB1 | exact HS.out.next1 hB1 | exact HS.out.nextD hB1 | exact (HS.out.alloc _ _).next hB1 | exact (HS.out.drew.alloc _ _).next hB1 | exact (HS.out.alloc _ _).drew.next hB1 | exact (HS.out.alloc2 _ _ _ _).next hB1 | exact (HS.out.drew.alloc2 _ _ _ _).next hB1 | exact (HS.out.alloc2 _ _ _ _).drew.next hB1)); (replace HS := Lib.hid HS2); (clear HS2); (obtain ⟨fp0, _⟩ := HS.out.box); (obtain ⟨fx0, fy0, _, _⟩ := fp0.cells); (have hle0_1 : w.heap.size < X1_1.heap.size := fp0.lt))
           | ((have HS2 : StL w X1_1 ((w1.heap.size, ⟨#[]⟩, ⟨#[]⟩) :: [(w.heap.size, fn, fd)]) := (by first | exact HS.out.next hB1 | exact HS.out.next1 hB1 | exact HS.out.nextD hB1 | exact (HS.out.alloc _ _).next hB1 | exact (HS.out.drew.alloc _ _).next hB1 | exact (HS.out.alloc _ _).drew.next hB1 | exact (HS.out.alloc2 _ _ _ _).next hB1 | exact (HS.out.drew.alloc2 _ _ _ _).next hB1 | exact (HS.out.alloc2 _ _ _ _).drew.next hB1)); (replace HS := Lib.hid HS2); (clear HS2); (obtain ⟨pn0, fp0, _⟩ := HS.out.box); (obtain ⟨nx0, ny0, nz0, nw0⟩ := pn0.cells); (have hnp0 : X1_1.heap.size ≠ w1.heap.size := World.new_ne _ _ nx0); (have hnq0 : w1.heap.size < X1_1.heap.size := pn0.lt); (obtain ⟨fx0, fy0, _, _⟩ := fp0.cells); (have hle0_1 : w.heap.size < X1_1.heap.size := fp0.lt); (have hnr0_0 : w1.heap.size ≠ w.heap.size := (by omega))));
         (clear hB1);
         (have hne0 : X1_1.heap.size ≠ w.heap.size := World.new_ne X1_1 _ fx0))
    | (go_at_call 53;
         (with_reducible refine Calls.mono (Ret.call HSU.out _ (by first | exact HS.out.g | exact HS.out.drew.g | exact (HS.out.drewN _).g | exact (HS.out.other _).g | exact (HS.out.drew.other _).g | exact (HS.out.other _).drew.g | exact ((HS.out.other _).other _).g | exact ((HS.out.drew.other _).other _).g | exact ((HS.out.other _).other _).drew.g | exact ((HS.out.drew.other _).drew.other _).g | exact ((HS.out.other _).drew.other _).g)) ?_);
         (rintro e X1_2 ⟨rfl, hB1⟩);
         (first
           | ((have HS2 : StL w X1_2 ([(w.heap.size, fn, fd)]) := (by first | exact HS.out.next hB1 | exact HS.out.next1 hB1 | exact HS.out.nextD hB1 | exact (HS.out.alloc _ _).next hB1 | exact (HS.out.drew.alloc _ _).next hB1 | exact (HS.out.alloc _ _).drew.next hB1 | exact (HS.out.alloc2 _ _ _ _).next hB1 | exact (HS.out.drew.alloc2 _ _ _ _).next hB1 | exact (HS.out.alloc2 _ _ _ _).drew.next hB1)); (replace HS := Lib.hid HS2); (clear HS2); (obtain ⟨fp0, _⟩ := HS.out.box); (obtain ⟨fx0, fy0, _, _⟩ := fp0.cells); (have hle0_2 : w.heap.size < X1_2.heap.size := fp0.lt))
           | ((have HS2 : StL w X1_2 ((X1_1.heap.size, ⟨#[]⟩, ⟨#[]⟩) :: [(w.heap.size, fn, fd)]) := (by first | exact HS.out.next hB1 | exact HS.out.next1 hB1 | exact HS.out.nextD hB1 | exact (HS.out.alloc _ _).next hB1 | exact (HS.out.drew.alloc _ _).next hB1 | exact (HS.out.alloc _ _).drew.next hB1 | exact (HS.out.alloc2 _ _ _ _).next hB1 | exact (HS.out.drew.alloc2 _ _ _ _).next hB1 | exact (HS.out.alloc2 _ _ _ _).drew.next hB1)); (replace HS := Lib.hid HS2); (clear HS2); (obtain ⟨pn0, fp0, _⟩ := HS.out.box); (obtain ⟨nx0, ny0, nz0, nw0⟩ := pn0.cells); (have hnp0 : X1_2.heap.size ≠ X1_1.heap.size := World.new_ne _ _ nx0); (have hnq0 : X1_1.heap.size < X1_2.heap.size := pn0.lt); (obtain ⟨fx0, fy0, _, _⟩ := fp0.cells); (have hle0_2 : w.heap.size < X1_2.heap.size := fp0.lt); (have hnr0_0 : X1_1.heap.size ≠ w.heap.size := (by omega)))
           | ((have HS2 : StL w X1_2 ((w1.heap.size, ⟨#[]⟩, ⟨#[]⟩) :: [(w.heap.size, fn, fd)]) := (by first | exact HS.out.next hB1 | exact HS.out.next1 hB1 | exact HS.out.nextD hB1 | exact (HS.out.alloc _ _).next hB1 | exact (HS.out.drew.alloc _ _).next hB1 | exact (HS.out.alloc _ _).drew.next hB1 | exact (HS.out.alloc2 _ _ _ _).next hB1 | exact (HS.out.drew.alloc2 _ _ _ _).next hB1 | exact (HS.out.alloc2 _ _ _ _).drew.next hB1)); (replace HS := Lib.hid HS2); (clear HS2); (obtain ⟨pn0, fp0, _⟩ := HS.out.box); (obtain ⟨nx0, ny0, nz0, nw0⟩ := pn0.cells); (have hnp0 : X1_2.heap.size ≠ w1.heap.size := World.new_ne _ _ nx0); (have hnq0 : w1.heap.size < X1_2.heap.size := pn0.lt); (obtain ⟨fx0, fy0, _, _⟩ := fp0.cells); (have hle0_2 : w.heap.size < X1_2.heap.size := fp0.lt); (have hnr0_0 : w1.heap.size ≠ w.heap.size := (by omega))));
         (clear hB1);
         (have hne0 : X1_2.heap.size ≠ w.heap.size := World.new_ne X1_2 _ fx0)))
    all_goals go_wp2_with fail
    all_goals go_meet
    all_goals refine ⟨_, rfl, ?_⟩
    all_goals first
      | with_reducible exact HS.out.alloc _ _
      | with_reducible exact StL.fill hG HS.out _ _
      | with_reducible exact (HS.out.alloc _ _).drew
      | with_reducible exact HS.out.drew.alloc _ _
      | with_reducible exact StL.fill hG HS.out.drew _ _
      | with_reducible exact (HS.out.drew.alloc _ _).drew
  clear HS hne0 hle0_0
  clear fp0 fx0 fy0
  obtain ⟨b1_0, rfl, hS⟩ := hcut
  obtain ⟨w2, hw⟩ : ∃ W, W = wc := ⟨_, rfl⟩
  rw [← hw] at hS
  rw [← hw]
  clear hw
  obtain ⟨fp0, fp1, _⟩ := hS.box
  obtain ⟨fx0, fy0, _, _⟩ := fp0.cells
  obtain ⟨fx1, fy1, _, _⟩ := fp1.cells
  go_wp2_with fail
  clear fp0 fx0 fy0 fp1 fx1 fy1
  refine Calls.mono (Ret.call HOZ.out _ hS.g) ?_
  rintro _ w3 ⟨rfl, hB⟩
  replace hS := hS.next hB
  clear hB
  go_upto_region 4 with fail
  obtain ⟨b4, hb4⟩ : ∃ b, b = w3.heap.size := ⟨_, rfl⟩
  obtain ⟨V4, hV4⟩ : ∃ V, V = w3.alloc (.cells #[.string ⟨#[]⟩, .string ⟨#[]⟩] 36) := ⟨_, rfl⟩
  have hT : StL w V4 [(b4, ⟨#[]⟩, ⟨#[]⟩), (b1_0, (cS D.1), (cD D.2)), (w.heap.size, fn, fd)] := by rw [hV4, hb4]; exact hS.alloc _ _
  rw [← hb4, ← hV4]
  clear hV4 hb4 hS
  have hS := hT
  clear hT
  obtain ⟨fp0, fp1, fp2, _⟩ := hS.box
  obtain ⟨fx0, fy0, _, _⟩ := fp0.cells
  obtain ⟨fx1, fy1, _, _⟩ := fp1.cells
  obtain ⟨fx2, fy2, _, _⟩ := fp2.cells
  go_wp2_with fail
  clear fp0 fx0 fy0 fp1 fx1 fy1 fp2 fx2 fy2
  refine Calls.mono (Ret.call HC0.out _ hS.g) ?_
  rintro _ w5 ⟨rfl, hB⟩
  replace hS := hS.next hB
  clear hB
  rw [HZ.out]
  obtain ⟨fp0, fp1, fp2, _⟩ := hS.box
  obtain ⟨fx0, fy0, _, _⟩ := fp0.cells
  obtain ⟨fx1, fy1, _, _⟩ := fp1.cells
  obtain ⟨fx2, fy2, _, _⟩ := fp2.cells
  go_wp2_with fail
  clear fp0 fx0 fy0 fp1 fx1 fy1 fp2 fx2 fy2
  refine Calls.mono (Ret.call HNX.out _ hS.g) ?_
  rintro _ w6 ⟨rfl, hB⟩
  replace hS := hS.next hB
  clear hB
  obtain ⟨fp0, fp1, fp2, _⟩ := hS.box
  obtain ⟨fx0, fy0, _, _⟩ := fp0.cells
  obtain ⟨fx1, fy1, _, _⟩ := fp1.cells
  obtain ⟨fx2, fy2, _, _⟩ := fp2.cells
  go_wp2_with fail
  clear fp0 fx0 fy0 fp1 fx1 fy1 fp2 fx2 fy2
  refine Calls.mono (Ret.call HHF.out _ hS.g) ?_
  rintro _ w7 ⟨rfl, hB⟩
  replace hS := hS.next hB
  clear hB
  go_upto_region 8 with fail
  obtain ⟨b8, hb8⟩ : ∃ b, b = w7.heap.size := ⟨_, rfl⟩
  obtain ⟨V8, hV8⟩ : ∃ V, V = w7.alloc (.cells #[.string ⟨#[49]⟩, .string ⟨#[50]⟩] 36) := ⟨_, rfl⟩
  have hT : StL w V8 [(b8, ⟨#[49]⟩, ⟨#[50]⟩), (b4, ⟨#[]⟩, ⟨#[]⟩), (b1_0, (cS D.1), (cD D.2)), (w.heap.size, fn, fd)] := by rw [hV8, hb8]; exact hS.alloc _ _
  rw [← hb8, ← hV8]
  clear hV8 hb8 hS
  have hS := hT
  clear hT
  obtain ⟨fp0, fp1, fp2, fp3, _⟩ := hS.box
  obtain ⟨fx0, fy0, _, _⟩ := fp0.cells
  obtain ⟨fx1, fy1, _, _⟩ := fp1.cells
  obtain ⟨fx2, fy2, _, _⟩ := fp2.cells
  obtain ⟨fx3, fy3, _, _⟩ := fp3.cells
  go_wp2_with fail
  clear fp0 fx0 fy0 fp1 fx1 fy1 fp2 fx2 fy2 fp3 fx3 fy3
  refine Calls.mono (Ret.call HCH.out _ hS.g) ?_
  rintro _ w9 ⟨rfl, hB⟩
  replace hS := hS.next hB
  clear hB
  obtain ⟨fp0, fp1, fp2, fp3, _⟩ := hS.box
  obtain ⟨fx0, fy0, _, _⟩ := fp0.cells
  obtain ⟨fx1, fy1, _, _⟩ := fp1.cells
  obtain ⟨fx2, fy2, _, _⟩ := fp2.cells
  obtain ⟨fx3, fy3, _, _⟩ := fp3.cells
  go_wp2_with fail
  clear fp0 fx0 fy0 fp1 fx1 fy1 fp2 fx2 fy2 fp3 fx3 fy3
  refine Calls.mono (Ret.call HCN.out _ hS.g) ?_
  rintro _ w10 ⟨rfl, hB⟩
  replace hS := hS.next hB
  clear hB
  have HWo := HW.out
  clear HW
  rcases HWo with ⟨rfl, h2, rfl⟩ | ⟨rfl, ⟨rfl, h2⟩, rfl⟩ | ⟨rfl, ⟨rfl, h2⟩, rfl⟩ | ⟨rfl, h2, rfl⟩ | ⟨rfl, h2, rfl⟩ | ⟨rfl, ⟨rfl, h2⟩, rfl⟩ | ⟨rfl, ⟨rfl, h2⟩, rfl⟩ | ⟨rfl, h2, rfl⟩ | ⟨rfl, h2, rfl⟩ | ⟨rfl, h2, rfl⟩ | ⟨rfl, h2, rfl⟩ | ⟨rfl, h2, rfl⟩ | ⟨rfl, _, rfl⟩ | ⟨rfl, _, rfl⟩
  · go_wp2_with fail
    go_ret
    exact ⟨rfl, hS.below⟩
  · have HV := Lib.hid (show decide (q % 2 = 0) = false from decide_eq_false (by omega))
    clear h2
    go_wp2_with fail
    refine (kEven (z := q) w10 HQS.out (vS_cS q)).mono ?_
    rintro _ _ ⟨rfl, rfl⟩
    rw [HV.out]
    go_wp2_with fail
    go_ret
    exact ⟨rfl, hS.below⟩
  · have HV := Lib.hid (show decide (q % 2 = 0) = true from decide_eq_true (by omega))
    clear h2
    go_wp2_with fail
    refine (kEven (z := q) w10 HQS.out (vS_cS q)).mono ?_
    rintro _ _ ⟨rfl, rfl⟩
    rw [HV.out]
    go_wp2_with fail
    go_ret
    exact ⟨rfl, hS.below⟩
  · have h3 : ¬ 0 < c := by omega
    have h4 : (c == 0) = false := by simp; omega
    go_wp2_with fail
    go_ret
    exact ⟨rfl, hS.below⟩
  · go_wp2_with fail
    go_ret
    exact ⟨rfl, hS.below⟩
  · have h5 : decide (cn < 0) = false := decide_eq_false (by omega)
    clear h2
    go_wp2_with fail
    go_ret
    exact ⟨rfl, hS.below⟩
  · go_wp2_with fail
    go_ret
    exact ⟨rfl, hS.below⟩
  · have h3 : ¬ 0 < c := by omega
    have h4 : (c == 0) = false := by simp; omega
    go_wp2_with fail
    go_ret
    exact ⟨rfl, hS.below⟩
  · go_wp2_with fail
    go_ret
    exact ⟨rfl, hS.below⟩
  · have h5 : decide (cn < 0) = false := decide_eq_false (by omega)
    clear h2
    go_wp2_with fail
    go_ret
    exact ⟨rfl, hS.below⟩
  · have h5 : decide (cn < 0) = false := decide_eq_false (by omega)
    clear h2
    go_wp2_with fail
    go_ret
    exact ⟨rfl, hS.below⟩
  · go_wp2_with fail
    go_ret
    exact ⟨rfl, hS.below⟩
  · go_wp2_with fail
    go_ret
    exact ⟨rfl, hS.below⟩
  · go_wp2_with fail
    go_ret
    exact ⟨rfl, hS.below⟩

end Go.Proofs.YthhihdihkddakaaGreatDoor

/- The reference implementation of layer 3: RoundTo, Round, Scale, Format: the walks. -/
namespace Go.Proofs.YthhihdihkddakaaGreatDoor
open Go.RowKit Fra

theorem kRoundTo_any {fn fd : ByteArray} {m z : Int} (hn : fn.size ≤ 300) (hd : fd.size ≤ 300) (h1 : 1 ≤ m) (h6 : m ≤ 6) (hz : rnd m (raw fn fd) = z) : Ret 127 #[.agg #[.string fn, .string fd], .int .i64 m] (.string (cS z)) := by
  by_cases h0 : rest (raw fn fd) = 0
  · exact kRoundTo_e hn hd h0 hz
  · exact kRoundTo_r hn hd h1 h6 h0 hz

set_option maxRecDepth 100000 in
set_option maxHeartbeats 16000000 in
theorem kRound_bad {fn fd : ByteArray} {m : Int} (hm : m < 1 ∨ 6 < m) : Ret 74 #[.agg #[.string fn, .string fd], .int .i64 m] (two ⟨#[]⟩ 7) := by
  intro w hG
  have HM := Lib.hid (okM_false hm)
  clear hm
  obtain ⟨W0, hW0⟩ : ∃ W0, W0 = w.alloc (.cells #[.string fn, .string fd] 36) := ⟨_, rfl⟩
  have hS : StL w W0 [(w.heap.size, fn, fd)] := by rw [hW0]; exact StL.one hG _ _
  go_enter Tryz.func74, Tryz.ntmps74
  go_upto_region 1 with fail
  rw [← hW0]
  clear hW0
  obtain ⟨fp0, _⟩ := hS.box
  obtain ⟨fx0, fy0, _, _⟩ := fp0.cells
  go_wp2_with fail
  clear fp0 fx0 fy0
  refine Calls.mono (kMode m W0) ?_
  rintro _ _ ⟨rfl, rfl⟩
  rw [HM.out]
  obtain ⟨fp0, _⟩ := hS.box
  obtain ⟨fx0, fy0, _, _⟩ := fp0.cells
  go_wp2_with fail
  go_ret2
  exact ⟨rfl, hS.below⟩

set_option maxRecDepth 100000 in
set_option maxHeartbeats 16000000 in
theorem kRound_ok {fn fd : ByteArray} {m z : Int} (hn : fn.size ≤ 300) (hd : fd.size ≤ 300) (h1 : 1 ≤ m) (h6 : m ≤ 6) (hz : rnd m (raw fn fd) = z) : Ret 74 #[.agg #[.string fn, .string fd], .int .i64 m] (two (cS z) 0) := by
  intro w hG
  have HM := Lib.hid (okM_true h1 h6)
  have HR := Lib.hid (kRoundTo_any hn hd h1 h6 hz)
  clear h1 h6 hz
  obtain ⟨W0, hW0⟩ : ∃ W0, W0 = w.alloc (.cells #[.string fn, .string fd] 36) := ⟨_, rfl⟩
  have hS : StL w W0 [(w.heap.size, fn, fd)] := by rw [hW0]; exact StL.one hG _ _
  go_enter Tryz.func74, Tryz.ntmps74
  go_upto_region 1 with fail
  rw [← hW0]
  clear hW0
  obtain ⟨fp0, _⟩ := hS.box
  obtain ⟨fx0, fy0, _, _⟩ := fp0.cells
  go_wp2_with fail
  clear fp0 fx0 fy0
  refine Calls.mono (kMode m W0) ?_
  rintro _ _ ⟨rfl, rfl⟩
  rw [HM.out]
  obtain ⟨fp0, _⟩ := hS.box
  obtain ⟨fx0, fy0, _, _⟩ := fp0.cells
  go_wp2_with fail
  clear fp0 fx0 fy0
  refine Calls.mono (Ret.call HR.out _ hS.g) ?_
  rintro _ w1 ⟨rfl, hB⟩
  replace hS := hS.next hB
  clear hB
  obtain ⟨fp0, _⟩ := hS.box
  obtain ⟨fx0, fy0, _, _⟩ := fp0.cells
  go_wp2_with fail
  go_ret2
  exact ⟨rfl, hS.below⟩

end Go.Proofs.YthhihdihkddakaaGreatDoor
