/- Mathematics of layer 5: the text of an amount, cut again. -/
import Derived.Test.YtahnkmkmoalbhaaGreatDoorZBI
import Derived.Test.YtahnkmkmoalbhaaGreatDoorZBR
import Derived.Laws.StructEq
import Derived.Lib.Bytealg
namespace Go.Proofs.YtahnkmkmoalbhaaGreatDoor
open Go.RowKit

/-- a text, a space and a code -/
def moneyT (T x : ByteArray) : ByteArray := T ++ ⟨#[32]⟩ ++ x
theorem data_app (a b : ByteArray) : (a ++ b).data.toList = a.data.toList ++ b.data.toList := by
  rw [ByteArray.data_append, Array.toList_append]
theorem moneyT_list (T x : ByteArray) : (moneyT T x).data.toList = T.data.toList ++ 32 :: x.data.toList := by
  unfold moneyT
  rw [data_app, data_app, List.append_assoc]; rfl
theorem list_eq {a b : ByteArray} (h : a.data.toList = b.data.toList) : a = b := ByteArray.ext (Array.toList_inj.1 h)
theorem moneyT_size (T x : ByteArray) : (moneyT T x).size = T.size + 1 + x.size := by
  unfold moneyT; rw [ByteArray.size_append, ByteArray.size_append]; rfl
theorem extract_list (s : ByteArray) (a b : Nat) : (s.extract a b).data.toList = (s.data.toList.drop a).take (b - a) := by
  have := Lib.extract_toList s a b
  rwa [Lib.toList_data] at this
theorem moneyT_pre (T x : ByteArray) : (moneyT T x).extract 0 T.size = T := by
  apply list_eq
  rw [extract_list, moneyT_list, List.drop_zero, Nat.sub_zero]
  have := size_toList T
  rw [List.take_append_of_le_length (by omega), List.take_of_length_le (by omega)]
theorem moneyT_code (T x : ByteArray) : (moneyT T x).extract (T.size + 1) (moneyT T x).size = x := by
  apply list_eq
  rw [extract_list, moneyT_list, moneyT_size]
  have h1 := size_toList T
  have h2 := size_toList x
  rw [show T.data.toList ++ 32 :: x.data.toList = (T.data.toList ++ [32]) ++ x.data.toList by simp, List.drop_append_of_le_length (by simp [h1]), List.drop_of_length_le (by simp [h1]), List.nil_append, List.take_of_length_le (by omega)]
theorem moneyT_par {T x : ByteArray} (h : codeS x = true) : ParP (moneyT T x) T.size := by
  have hx := code_size h
  have hs := moneyT_size T x
  refine ⟨by omega, ?_, by rw [moneyT_code]; exact h⟩
  have h1 := size_toList T
  have : (moneyT T x).data.toList[T.size]'(by rw [size_toList]; omega) = 32 := by
    simp only [moneyT_list]
    rw [List.getElem_append_right (by omega)]
    simp [h1]
  rw [← this, Array.getElem_toList]
  rfl
/-- a text that ends with a space and a code, cut and joined -/
theorem parP_join {s : ByteArray} {m : Nat} (h : ParP s m) : moneyT (s.extract 0 m) (s.extract (m + 1) s.size) = s := by
  have hs := h.size
  have hl := size_toList s
  apply list_eq
  rw [moneyT_list, extract_list, extract_list, List.drop_zero, Nat.sub_zero, List.take_of_length_le (l := s.data.toList.drop (m + 1)) (by rw [List.length_drop]; omega)]
  have hm : m < s.data.toList.length := by omega
  have he : s.data.toList[m] = 32 := by rw [← h.space, Array.getElem_toList]; rfl
  rw [← he]
  rw [List.getElem_cons_drop, List.take_append_drop]
theorem trim_money (T x : ByteArray) : ByteArray.mk (Lib.trimSuffix (moneyT T x).data.toList (ByteArray.mk #[32] ++ x).data.toList).toArray = T := by
  apply list_eq
  show Lib.trimSuffix _ _ = _
  have hd : (ByteArray.mk #[32] ++ x).data.toList = 32 :: x.data.toList := by rw [data_app]; rfl
  rw [hd, moneyT_list]
  unfold Lib.trimSuffix
  rw [if_pos, List.length_append, Nat.add_sub_cancel, List.take_append_of_le_length (Nat.le_refl _), List.take_of_length_le (Nat.le_refl _)]
  unfold Lib.hasSuffix
  simp
theorem indexB_none {l : List UInt8} {c : UInt8} (h : ∀ b, b ∈ l → b ≠ c) : Lib.indexByte l c = -1 := by
  induction l with
  | nil => rfl
  | cons a r ih =>
    unfold Lib.indexByte
    rw [if_neg (by have := h a (by simp); simpa using this), ih fun b hb => h b (by simp [hb])]
    rfl
theorem indexB_at {l r : List UInt8} {c : UInt8} (h : ∀ b, b ∈ l → b ≠ c) : Lib.indexByte (l ++ c :: r) c = l.length := by
  induction l with
  | nil => show Lib.indexByte (c :: r) c = 0; unfold Lib.indexByte; rw [if_pos (by simp)]
  | cons a t ih =>
    show Lib.indexByte (a :: (t ++ c :: r)) c = _
    have h2 := ih fun b hb => h b (by simp [hb])
    unfold Lib.indexByte
    rw [if_neg (by have := h a (by simp); simpa using this), h2, if_neg (by simp)]
    simp
/-- the places that a text shows -/
theorem money_dot {x : ByteArray} (z : Int) (p : Nat) (hx : codeS x = true) :
    (p = 0 ∧ Lib.indexByte (moneyT (txt z p) x).data.toList 46 = -1) ∨ (0 < p ∧ ∃ k : Nat, Lib.indexByte (moneyT (txt z p) x).data.toList 46 = k ∧ k + 1 + p + 4 = (moneyT (txt z p) x).size) := by
  have hxs := code_size hx
  have hlet : ∀ b, b ∈ x.data.toList → b ≠ 46 := fun b hb => by
    unfold codeS at hx
    rw [Bool.and_eq_true] at hx
    have := List.all_eq_true.1 hx.1 b hb
    unfold isLet at this
    have := of_decide_eq_true this
    rintro rfl
    exact absurd this (by decide)
  have hw : ∀ b, b ∈ (if z < 0 then [45] else []) ++ Lib.decDigits (z.natAbs / 10 ^ p) → b ≠ (46 : UInt8) := fun b hb => by
    rcases List.mem_append.1 hb with h | h
    · split at h
      · obtain rfl := List.mem_singleton.1 h; decide
      · exact absurd h (by simp)
    · have := List.all_eq_true.1 (Num.all_decDigits (z.natAbs / 10 ^ p)) b h
      rintro rfl
      exact absurd this (by decide)
  have ht : (txt z p).data.toList = (if z < 0 then [45] else []) ++ (Lib.decDigits (z.natAbs / 10 ^ p) ++ if p = 0 then [] else 46 :: Num.fixd p z.natAbs) := Num.decT_list z p
  have hsz := moneyT_size (txt z p) x
  have hts := size_toList (txt z p)
  rw [moneyT_list, ht]
  by_cases h0 : p = 0
  · refine Or.inl ⟨h0, indexB_none fun b hb => ?_⟩
    rw [if_pos h0, List.append_nil] at hb
    rcases List.mem_append.1 hb with h | h
    · exact hw b h
    · rcases List.mem_cons.1 h with rfl | h
      · decide
      · exact hlet b h
  · refine Or.inr ⟨by omega, ((if z < 0 then [45] else []) ++ Lib.decDigits (z.natAbs / 10 ^ p)).length, ?_, ?_⟩
    · rw [if_neg h0, ← List.append_assoc, List.append_assoc, List.cons_append]
      exact indexB_at hw
    · rw [ht, if_neg h0] at hts
      simp only [List.length_append, List.length_cons, Num.fixd_length] at hts ⊢
      omega

end Go.Proofs.YtahnkmkmoalbhaaGreatDoor

/- Layer 5: the law MoneyTexts. -/
namespace Go.Proofs.YtahnkmkmoalbhaaGreatDoor
open Go.RowKit Fra

/-- what Text returns for a table that is one -/
theorem text_case {n : Nat} {c : Nat → ByteArray} {p : Nat → Int} {x z : ByteArray} (hf : FitT n c) (h : tabE n c p = 0) (hx : x.size ≤ 8) (hz : z.size ≤ 13) :
    (∃ tx e, e ≠ 0 ∧ OnT 31 n c p x z (strE tx e)) ∨
    (∃ tx, tx.size ≤ 1000 ∧ OnT 31 n c p x z (strE tx 0) ∧ OnP 33 n c p tx (monE x z 0)) := by
  cases h1 : curI n c x with
  | none => exact Or.inl ⟨_, 12, by decide, fun W xa ca hG hr => pText_cur hf h h1 W xa ca hG hr⟩
  | some i =>
    cases h2 : isCan z with
    | false => exact Or.inl ⟨_, 1, by decide, fun W xa ca hG hr => pText_can hf (by omega) h h1 h2 W xa ca hG hr⟩
    | true =>
      have hg := tabE_zero h
      have hii := idx_is h1
      have hlo := hg.low i hii.1
      have hhi := hg.high i hii.1
      have hcx : c i = x := of_decide_eq_true hii.2.1
      have hco : codeS x = true := by rw [← hcx]; exact hg.code i hii.1
      have htx := txt_size (z := vS z) (p i).toNat (Cap.of hz rfl)
      have hsz := moneyT_size (txt (vS z) (p i).toNat) x
      refine Or.inr ⟨moneyT (txt (vS z) (p i).toNat) x, by omega, fun W xa ca hG hr => pText_ok hf (by omega) (by omega) h h1 h2 W xa ca hG hr, fun W xa ca hG hr => ?_⟩
      have hm := moneyT_par (T := txt (vS z) (p i).toNat) hco
      have := pPar_ok hf h (by omega) hm (i := i) (by rw [moneyT_code]; exact h1) z (by
        rw [moneyT_pre]
        have hd := dParse_ok (s := txt (vS z) (p i).toNat) (p := (p i).toNat) (m := vS z) (by omega) (Num.isDec_of_text _ _) (by omega) (by
          have e1 : unitsD (txt (vS z) (p i).toNat) = vS z := Num.decU_text _ _
          have e2 : placesD (txt (vS z) (p i).toNat) = (p i).toNat := Num.decP_text _ _
          rw [e1, e2])
        rw [show (((p i).toNat : Nat) : Int) = p i by omega, show cS (vS z) = z from of_decide_eq_true h2] at hd
        exact hd) W xa ca hG hr
      rw [moneyT_code] at this
      exact this
/-- what the law looks at behind a text that was read -/
structure ReadAt (n : Nat) (c : Nat → ByteArray) (p : Nat → Int) (s cd aa : ByteArray) (i : Nat) (z2 T1 T2 u1 v1 : ByteArray) (k pt : Int) : Prop where
  par : OnP 33 n c p s (monE cd aa 0)
  text : OnT 31 n c p cd aa (strE z2 0)
  s_eq : s = moneyT T1 cd
  z_eq : z2 = moneyT T2 cd
  f1 : Ret 40 #[.string T1] (fraE u1 v1 0)
  f2 : Ret 40 #[.string T2] (fraE u1 v1 0)
  find : curI n c cd = some i
  code : codeS cd = true
  zsz : z2.size ≤ 1000
  dot : Lib.indexByte z2.data.toList 46 = pt
  plc : (pt = -1 ∧ p i = 0) ∨ (0 ≤ pt ∧ (z2.size : Int) - 4 - pt - 1 = p i)
theorem parse_case {n : Nat} {c : Nat → ByteArray} {p : Nat → Int} {s : ByteArray} (hf : FitT n c) (h : tabE n c p = 0) (hs : s.size ≤ 40) :
    (∃ g, g ≠ 0 ∧ OnP 33 n c p s (monE ⟨#[]⟩ ⟨#[]⟩ g)) ∨
    (∃ cd aa i z2 T1 T2 u1 v1 pt, ReadAt n c p s cd aa i z2 T1 T2 u1 v1 0 pt) := by
  rcases parP_cases s with ⟨m, hm⟩ | hno
  · have hsz := hm.size
    cases h2 : curI n c (s.extract (m + 1) s.size) with
    | none => exact Or.inl ⟨12, by decide, fun W xa ca hG hr => pPar_none hf h (by omega) hm h2 W xa ca hG hr⟩
    | some i =>
      have hg := tabE_zero h
      have hii := idx_is h2
      have hlo := hg.low i hii.1
      have hhi := hg.high i hii.1
      obtain ⟨q, hq⟩ : ∃ q : Nat, p i = q := ⟨(p i).toNat, by omega⟩
      have hpre : (s.extract 0 m).size ≤ 40 := by rw [ByteArray.size_extract]; omega
      obtain ⟨T1, hT1⟩ : ∃ t, s.extract 0 m = t := ⟨_, rfl⟩
      rw [hT1] at hpre
      have hpl := placesD_le T1
      cases hd : isDecS T1 with
      | false => exact Or.inl ⟨3, by decide, fun W xa ca hG hr => pPar_err hf h (by omega) hm h2 ⟨#[]⟩ 3 (by decide) (by rw [hT1, hq]; exact dParse_bad (okP_true (by omega) (by omega)) (by omega) hd) W xa ca hG hr⟩
      | true =>
        by_cases hmod : Int.fmod (unitsD T1 * (10 : Int) ^ q) ((10 : Int) ^ placesD T1) = 0
        · obtain ⟨cd, hcd⟩ : ∃ t, s.extract (m + 1) s.size = t := ⟨_, rfl⟩
          obtain ⟨mm, hmm⟩ : ∃ mm, Int.fdiv (unitsD T1 * (10 : Int) ^ q) ((10 : Int) ^ placesD T1) = mm := ⟨_, rfl⟩
          have hmul : unitsD T1 * (10 : Int) ^ q = mm * (10 : Int) ^ placesD T1 := by
            have := Int.fdiv_mul_add_fmod (unitsD T1 * (10 : Int) ^ q) ((10 : Int) ^ placesD T1)
            rw [hmod, hmm] at this
            omega
          have h0 := Num.pow10 (placesD T1)
          have h1 := Num.pow10 q
          have hcu := unitsD_cap hd
          have hcm : Cap (40 + 12) mm := by
            have c1 : Cap (40 + 12) (unitsD T1 * (10 : Int) ^ q) := by
              unfold Cap at hcu ⊢
              rw [Int.natAbs_mul, Int.natAbs_pow]
              have e1 : (unitsD T1).natAbs < 10 ^ 40 := Nat.lt_of_lt_of_le hcu (Nat.pow_le_pow_right (by decide) hpre)
              have e2 : ((10 : Int).natAbs) ^ q ≤ 10 ^ 12 := Nat.pow_le_pow_right (by decide) (by omega)
              rw [Nat.pow_add]
              exact Nat.lt_of_lt_of_le (Nat.mul_lt_mul_of_pos_right e1 (Nat.pos_of_ne_zero (by simp))) (Nat.mul_le_mul_left _ e2)
            rw [hmul] at c1
            unfold Cap at c1 ⊢
            rw [Int.natAbs_mul] at c1
            have : 0 < ((10 : Int) ^ placesD T1).natAbs := by omega
            exact Nat.lt_of_le_of_lt (Nat.le_mul_of_pos_right _ this) c1
          have haa := cS_size hcm
          have hco : codeS cd = true := by rw [← hcd]; exact hm.code
          have htx := txt_size (z := mm) q hcm
          have hcs := code_size hco
          have hz2 := moneyT_size (txt mm q) cd
          obtain ⟨z2, hz2e⟩ : ∃ t, moneyT (txt mm q) cd = t := ⟨_, rfl⟩
          rw [hcd] at h2
          have hqn : (p i).toNat = q := by omega
          have hlow : low (unitsD T1, (10 : Int) ^ placesD T1) = low (mm, (10 : Int) ^ q) := low_eq h0 h1 hmul
          obtain ⟨X, hX⟩ : ∃ X, low (mm, (10 : Int) ^ q) = X := ⟨_, rfl⟩
          refine Or.inr ⟨cd, cS mm, i, z2, T1, txt mm q, cS X.1, cD X.2, Lib.indexByte z2.data.toList 46, ?_⟩
          refine ⟨fun W xa ca hG hr => ?_, fun W xa ca hG hr => ?_, ?_, hz2e.symm, fraction_ok (by omega) hd (hlow.trans hX), fraction_ok (by omega) (Num.isDec_of_text _ _) ?_, h2, hco, by rw [← hz2e]; omega, rfl, ?_⟩
          · have := pPar_ok hf h (by omega) hm (by rw [hcd]; exact h2) (cS mm) (by rw [hT1, hq]; exact dParse_ok (by omega) hd (by omega) hmul) W xa ca hG hr
            rw [hcd] at this
            exact this
          · have := pText_ok (x := cd) (z := cS mm) hf (by omega) (by omega) h h2 (cS_can mm) W xa ca hG hr
            rw [vS_cS, hqn, show txt mm q ++ ⟨#[32]⟩ ++ cd = z2 from hz2e] at this
            exact this
          · rw [← hT1, ← hcd]; exact (parP_join hm).symm
          · have e1 : unitsD (txt mm q) = mm := Num.decU_text _ _
            have e2 : placesD (txt mm q) = q := Num.decP_text _ _
            rw [e1, e2]; exact hX
          · rcases money_dot mm q hco with ⟨h3, h4⟩ | ⟨h3, k, h4, h5⟩
            · rw [hz2e] at h4
              exact Or.inl ⟨h4, by omega⟩
            · rw [hz2e] at h4 h5
              exact Or.inr ⟨by omega, by omega⟩
        · exact Or.inl ⟨22, by decide, fun W xa ca hG hr => pPar_err hf h (by omega) hm h2 ⟨#[]⟩ 22 (by decide) (by rw [hT1, hq]; exact dParse_inexact (by omega) hd (by omega) hmod) W xa ca hG hr⟩
  · refine Or.inl ⟨3, by decide, fun W xa ca hG hr => ?_⟩
    rcases last_bad hno with e | ⟨k, hk, e, hc⟩
    · exact pPar_no hf h (by omega) e W xa ca hG hr
    · exact pPar_code hf h (by omega) hk e hc W xa ca hG hr
set_option maxRecDepth 100000 in
set_option maxHeartbeats 16000000 in
theorem mte_great (xa : Option Addr) (n ca : Nat) (c : Nat → ByteArray) (p : Nat → Int) (x z s : ByteArray) (w : World) (hG : Ground w) (hx : Rt w xa n c p) (hn : n ≤ 9223372036854775807) (hg : greatTb n c = true) :
    Calls Tryz.prog 10 #[.slice xa n (n + ca), .agg #[.string x, .string z], .string s] w (ValP (.bool true) w) := by
  obtain ⟨W0, hW0⟩ : ∃ V, V = w.alloc (.cells #[.string x, .string z] 35) := ⟨_, rfl⟩
  obtain ⟨B0, hB0⟩ : ∃ q, w.heap.size = q := ⟨_, rfl⟩
  have hP0 : PairAt W0 B0 35 x z := by rw [hW0, ← hB0]; exact PairAt.made _ _ _ _
  have hb0 : Below w.heap.size w W0 := by rw [hW0]; exact (Below.refl _ _).alloc (Nat.le_refl _) _
  have HP := Lib.hid hP0
  have HB := Lib.hid hb0
  have HGT := Lib.hid (rGreatTab W0 xa n (n + ca) c p (hx.belowAt hb0 (Nat.le_refl _)) hn)
  have HAW := Lib.hid mawake
  have HG := Lib.hid hG
  have HLO := Lib.hid (fun V => rLongM x z V)
  unfold ValP at HAW ⊢
  rw [hg] at HGT
  clear hG hx hn hP0 hb0 hg
  go_enter Tryz.func10, Tryz.ntmps10
  go_upto_region 1 with fail
  rw [← hW0]
  try rw [hB0]
  clear hW0
  obtain ⟨q1, q2, _, _⟩ := HP.out.cells
  go_wp2_with fail
  refine HGT.out.mono ?_
  rintro _ _ ⟨rfl, rfl⟩
  have hb := HB.out
  have hP := HP.out
  go_wp2_with fail
  refine (HAW.out _ (HG.out.below (by first | exact hb | exact hB0 ▸ hb))).mono ?_
  rintro _ w2 ⟨rfl, hB⟩
  go_wp2_with fail
  go_ret
  have hbb := hb.trans (hB.mono hb.size)
  exact ⟨rfl, by first | exact hbb | exact hB0 ▸ hbb⟩
set_option maxRecDepth 100000 in
set_option maxHeartbeats 16000000 in
theorem mte_long (xa : Option Addr) (n ca : Nat) (c : Nat → ByteArray) (p : Nat → Int) (x z s : ByteArray) (w : World) (hG : Ground w) (hx : Rt w xa n c p) (hn : n ≤ 9223372036854775807) (hg : greatTb n c = false) (hl : wideB x z = true) :
    Calls Tryz.prog 10 #[.slice xa n (n + ca), .agg #[.string x, .string z], .string s] w (ValP (.bool true) w) := by
  obtain ⟨W0, hW0⟩ : ∃ V, V = w.alloc (.cells #[.string x, .string z] 35) := ⟨_, rfl⟩
  obtain ⟨B0, hB0⟩ : ∃ q, w.heap.size = q := ⟨_, rfl⟩
  have hP0 : PairAt W0 B0 35 x z := by rw [hW0, ← hB0]; exact PairAt.made _ _ _ _
  have hb0 : Below w.heap.size w W0 := by rw [hW0]; exact (Below.refl _ _).alloc (Nat.le_refl _) _
  have HP := Lib.hid hP0
  have HB := Lib.hid hb0
  have HGT := Lib.hid (rGreatTab W0 xa n (n + ca) c p (hx.belowAt hb0 (Nat.le_refl _)) hn)
  have HAW := Lib.hid mawake
  have HG := Lib.hid hG
  have HLO := Lib.hid (fun V => rLongM x z V)
  unfold ValP at HAW ⊢
  rw [hg] at HGT
  rw [hl] at HLO
  clear hG hx hn hP0 hb0 hg hl
  go_enter Tryz.func10, Tryz.ntmps10
  go_upto_region 1 with fail
  rw [← hW0]
  try rw [hB0]
  clear hW0
  obtain ⟨q1, q2, _, _⟩ := HP.out.cells
  go_wp2_with fail
  refine HGT.out.mono ?_
  rintro _ _ ⟨rfl, rfl⟩
  have hb := HB.out
  have hP := HP.out
  go_wp2_with fail
  refine (HLO.out _).mono ?_
  rintro _ w3 ⟨rfl, hB⟩
  replace hb := hb.trans (hB.mono hb.size)
  replace hP := hP.below hB
  clear hB q1 q2
  go_wp2_with fail
  refine (HAW.out _ (HG.out.below (by first | exact hb | exact hB0 ▸ hb))).mono ?_
  rintro _ w2 ⟨rfl, hB⟩
  go_wp2_with fail
  go_ret
  have hbb := hb.trans (hB.mono hb.size)
  exact ⟨rfl, by first | exact hbb | exact hB0 ▸ hbb⟩
set_option maxRecDepth 100000 in
set_option maxHeartbeats 16000000 in
theorem mte_size (xa : Option Addr) (n ca : Nat) (c : Nat → ByteArray) (p : Nat → Int) (x z s : ByteArray) (w : World) (hG : Ground w) (hx : Rt w xa n c p) (hn : n ≤ 9223372036854775807) (hg : greatTb n c = false) (hl : wideB x z = false) (hs : 40 < s.size) :
    Calls Tryz.prog 10 #[.slice xa n (n + ca), .agg #[.string x, .string z], .string s] w (ValP (.bool true) w) := by
  obtain ⟨W0, hW0⟩ : ∃ V, V = w.alloc (.cells #[.string x, .string z] 35) := ⟨_, rfl⟩
  obtain ⟨B0, hB0⟩ : ∃ q, w.heap.size = q := ⟨_, rfl⟩
  have hP0 : PairAt W0 B0 35 x z := by rw [hW0, ← hB0]; exact PairAt.made _ _ _ _
  have hb0 : Below w.heap.size w W0 := by rw [hW0]; exact (Below.refl _ _).alloc (Nat.le_refl _) _
  have HP := Lib.hid hP0
  have HB := Lib.hid hb0
  have HGT := Lib.hid (rGreatTab W0 xa n (n + ca) c p (hx.belowAt hb0 (Nat.le_refl _)) hn)
  have HAW := Lib.hid mawake
  have HG := Lib.hid hG
  have HLO := Lib.hid (fun V => rLongM x z V)
  unfold ValP at HAW ⊢
  rw [hg] at HGT
  rw [hl] at HLO
  have hi : (40 : Int) < (s.size : Int) := by omega
  clear hG hx hn hP0 hb0 hg hl hs
  go_enter Tryz.func10, Tryz.ntmps10
  go_upto_region 1 with fail
  rw [← hW0]
  try rw [hB0]
  clear hW0
  obtain ⟨q1, q2, _, _⟩ := HP.out.cells
  go_wp2_with fail
  refine HGT.out.mono ?_
  rintro _ _ ⟨rfl, rfl⟩
  have hb := HB.out
  have hP := HP.out
  go_wp2_with fail
  refine (HLO.out _).mono ?_
  rintro _ w3 ⟨rfl, hB⟩
  replace hb := hb.trans (hB.mono hb.size)
  replace hP := hP.below hB
  clear hB q1 q2
  go_wp2_with fail
  refine (HAW.out _ (HG.out.below (by first | exact hb | exact hB0 ▸ hb))).mono ?_
  rintro _ w2 ⟨rfl, hB⟩
  go_wp2_with fail
  go_ret
  have hbb := hb.trans (hB.mono hb.size)
  exact ⟨rfl, by first | exact hbb | exact hB0 ▸ hbb⟩
set_option maxRecDepth 100000 in
set_option maxHeartbeats 16000000 in
theorem mte_tab (xa : Option Addr) (n ca : Nat) (c : Nat → ByteArray) (p : Nat → Int) (x z s : ByteArray) (w : World) (hG : Ground w) (hx : Rt w xa n c p) (hn : n ≤ 9223372036854775807) (hg : greatTb n c = false) (hl : wideB x z = false) (hs : s.size ≤ 40) (ht : tabE n c p ≠ 0) :
    Calls Tryz.prog 10 #[.slice xa n (n + ca), .agg #[.string x, .string z], .string s] w (ValP (.bool true) w) := by
  obtain ⟨W0, hW0⟩ : ∃ V, V = w.alloc (.cells #[.string x, .string z] 35) := ⟨_, rfl⟩
  obtain ⟨B0, hB0⟩ : ∃ q, w.heap.size = q := ⟨_, rfl⟩
  have hP0 : PairAt W0 B0 35 x z := by rw [hW0, ← hB0]; exact PairAt.made _ _ _ _
  have hb0 : Below w.heap.size w W0 := by rw [hW0]; exact (Below.refl _ _).alloc (Nat.le_refl _) _
  have HP := Lib.hid hP0
  have HB := Lib.hid hb0
  have HGT := Lib.hid (rGreatTab W0 xa n (n + ca) c p (hx.belowAt hb0 (Nat.le_refl _)) hn)
  have HAW := Lib.hid mawake
  have HG := Lib.hid hG
  have HLO := Lib.hid (fun V => rLongM x z V)
  unfold ValP at HAW ⊢
  have hgf := greatTb_false hg
  have hft : FitT n c := ⟨by omega, fun i hi => by have := hgf.2 i hi; omega⟩
  have hi : ¬ (40 : Int) < (s.size : Int) := by omega
  have HTB := Lib.hid (fun V (hB : Below w.heap.size w V) => pTab V xa n (n + ca) (by omega) c p (hx.belowAt hB (Nat.le_refl _)) hft)
  obtain ⟨d, hd⟩ : ∃ d, tabE n c p = d := ⟨_, rfl⟩
  rw [hd] at HTB
  have hdb : (d != 0) = true := by rw [bne_iff_ne, ← hd]; exact ht
  rw [hg] at HGT
  rw [hl] at HLO
  clear hG hx hn hP0 hb0 hg hl hs hgf hft hd ht
  go_enter Tryz.func10, Tryz.ntmps10
  go_upto_region 1 with fail
  rw [← hW0]
  try rw [hB0]
  clear hW0
  obtain ⟨q1, q2, _, _⟩ := HP.out.cells
  go_wp2_with fail
  refine HGT.out.mono ?_
  rintro _ _ ⟨rfl, rfl⟩
  have hb := HB.out
  have hP := HP.out
  go_wp2_with fail
  refine (HLO.out _).mono ?_
  rintro _ w3 ⟨rfl, hB⟩
  replace hb := hb.trans (hB.mono hb.size)
  replace hP := hP.below hB
  clear hB q1 q2
  go_wp2_with fail
  refine (HTB.out _ (by first | exact hb | exact hB0 ▸ hb)).mono ?_
  rintro _ w4 ⟨rfl, hB⟩
  replace hb := hb.trans (hB.mono hb.size)
  replace hP := hP.below hB
  clear hB
  go_wp2_with fail
  refine (HAW.out _ (HG.out.below (by first | exact hb | exact hB0 ▸ hb))).mono ?_
  rintro _ w2 ⟨rfl, hB⟩
  go_wp2_with fail
  go_ret
  have hbb := hb.trans (hB.mono hb.size)
  exact ⟨rfl, by first | exact hbb | exact hB0 ▸ hbb⟩
set_option maxRecDepth 100000 in
set_option maxHeartbeats 16000000 in
theorem mte_00 (xa : Option Addr) (n ca : Nat) (c : Nat → ByteArray) (p : Nat → Int) (x z s : ByteArray) (w : World) (hG : Ground w) (hx : Rt w xa n c p) (hn : n ≤ 9223372036854775807) (hg : greatTb n c = false) (hl : wideB x z = false) (hs : s.size ≤ 40) (ht : tabE n c p = 0) (tx : ByteArray) (e : Int) (he : e ≠ 0) (hA : OnT 31 n c p x z (strE tx e)) (g : Int) (hg0 : g ≠ 0) (hBp : OnP 33 n c p s (monE ⟨#[]⟩ ⟨#[]⟩ g)) :
    Calls Tryz.prog 10 #[.slice xa n (n + ca), .agg #[.string x, .string z], .string s] w (ValP (.bool true) w) := by
  obtain ⟨W0, hW0⟩ : ∃ V, V = w.alloc (.cells #[.string x, .string z] 35) := ⟨_, rfl⟩
  obtain ⟨B0, hB0⟩ : ∃ q, w.heap.size = q := ⟨_, rfl⟩
  have hP0 : PairAt W0 B0 35 x z := by rw [hW0, ← hB0]; exact PairAt.made _ _ _ _
  have hb0 : Below w.heap.size w W0 := by rw [hW0]; exact (Below.refl _ _).alloc (Nat.le_refl _) _
  have HP := Lib.hid hP0
  have HB := Lib.hid hb0
  have HGT := Lib.hid (rGreatTab W0 xa n (n + ca) c p (hx.belowAt hb0 (Nat.le_refl _)) hn)
  have HAW := Lib.hid mawake
  have HG := Lib.hid hG
  have HLO := Lib.hid (fun V => rLongM x z V)
  unfold ValP at HAW ⊢
  have hgf := greatTb_false hg
  have hft : FitT n c := ⟨by omega, fun i hi => by have := hgf.2 i hi; omega⟩
  have hi : ¬ (40 : Int) < (s.size : Int) := by omega
  have HTB := Lib.hid (fun V (hB : Below w.heap.size w V) => pTab V xa n (n + ca) (by omega) c p (hx.belowAt hB (Nat.le_refl _)) hft)
  rw [ht] at HTB
  rw [hg] at HGT
  rw [hl] at HLO
  have HX := Lib.hid hx
  have hR := fun V (hB : Below w.heap.size w V) => hx.belowAt hB (Nat.le_refl _)
  have HR := Lib.hid hR
  have hA' := hA
  have hb1 : (e == 0) = false := by rw [beq_eq_false_iff_ne]; exact he
  have HTX := Lib.hid (fun V (hB : Below w.heap.size w V) => hA' V xa ca (hG.below hB) (hR V hB))
  unfold ValP strE at HTX
  clear hA hA' he
  have hb2 : (g != 0) = true := by rw [bne_iff_ne]; exact hg0
  have HPS := Lib.hid (fun V (hB : Below w.heap.size w V) => hBp V xa ca (hG.below hB) (hR V hB))
  unfold ValP monE at HPS
  have g1 := fun X Y W => money_guarde X Y ⟨#[]⟩ ⟨#[]⟩ ⟨#[]⟩ ⟨#[]⟩ W
  have g2 := money_same ⟨#[]⟩ ⟨#[]⟩
  clear hg0 hBp
  clear hG hx hn hP0 hb0 hg hl hs hgf hft ht hR
  go_enter Tryz.func10, Tryz.ntmps10
  go_upto_region 1 with fail
  rw [← hW0]
  try rw [hB0]
  clear hW0
  obtain ⟨q1, q2, _, _⟩ := HP.out.cells
  go_wp2_with fail
  refine HGT.out.mono ?_
  rintro _ _ ⟨rfl, rfl⟩
  have hb := HB.out
  have hP := HP.out
  go_wp2_with fail
  refine (HLO.out _).mono ?_
  rintro _ w3 ⟨rfl, hB⟩
  replace hb := hb.trans (hB.mono hb.size)
  replace hP := hP.below hB
  clear hB q1 q2
  go_wp2_with fail
  refine (HTB.out _ (by first | exact hb | exact hB0 ▸ hb)).mono ?_
  rintro _ w4 ⟨rfl, hB⟩
  replace hb := hb.trans (hB.mono hb.size)
  replace hP := hP.below hB
  clear hB
  obtain ⟨q1, q2, _, _⟩ := hP.cells
  go_wp2_with fail
  refine (HTX.out _ (by first | exact hb | exact hB0 ▸ hb)).mono ?_
  rintro _ w5 ⟨rfl, hB⟩
  replace hb := hb.trans (hB.mono hb.size)
  replace hP := hP.below hB
  clear hB q1 q2
  go_wp2_with fail
  refine (HPS.out _ (by first | exact hb | exact hB0 ▸ hb)).mono ?_
  rintro _ w7 ⟨rfl, hB⟩
  replace hb := hb.trans (hB.mono hb.size)
  clear hB
  obtain ⟨E11, hE11⟩ : ∃ q, w7.heap.size = q := ⟨_, rfl⟩
  obtain ⟨X11, hX11⟩ : ∃ V, V = w7.alloc (.cells #[.string ⟨#[]⟩, .string ⟨#[]⟩] 35) := ⟨_, rfl⟩
  have hE : PairAt X11 E11 35 ⟨#[]⟩ ⟨#[]⟩ := by rw [hX11, ← hE11]; exact PairAt.made _ _ _ _
  replace hb : Below w.heap.size w X11 := by rw [hX11]; exact hb.alloc hb.size _
  go_upto_region 9 with fail
  rw [← hX11]
  try rw [hE11]
  clear hX11 hE11
  obtain ⟨q1, q2, _, _⟩ := hE.cells
  go_wp2_with fail
  refine (HAW.out _ (HG.out.below (by first | exact hb | exact hB0 ▸ hb))).mono ?_
  rintro _ w2 ⟨rfl, hB⟩
  go_wp2_with fail
  go_ret
  have hbb := hb.trans (hB.mono hb.size)
  exact ⟨rfl, by first | exact hbb | exact hB0 ▸ hbb⟩
set_option maxRecDepth 100000 in
set_option maxHeartbeats 16000000 in
theorem mte_10 (xa : Option Addr) (n ca : Nat) (c : Nat → ByteArray) (p : Nat → Int) (x z s : ByteArray) (w : World) (hG : Ground w) (hx : Rt w xa n c p) (hn : n ≤ 9223372036854775807) (hg : greatTb n c = false) (hl : wideB x z = false) (hs : s.size ≤ 40) (ht : tabE n c p = 0) (tx : ByteArray) (hts : tx.size ≤ 1000) (hA : OnT 31 n c p x z (strE tx 0)) (hA2 : OnP 33 n c p tx (monE x z 0)) (g : Int) (hg0 : g ≠ 0) (hBp : OnP 33 n c p s (monE ⟨#[]⟩ ⟨#[]⟩ g)) :
    Calls Tryz.prog 10 #[.slice xa n (n + ca), .agg #[.string x, .string z], .string s] w (ValP (.bool true) w) := by
  obtain ⟨W0, hW0⟩ : ∃ V, V = w.alloc (.cells #[.string x, .string z] 35) := ⟨_, rfl⟩
  obtain ⟨B0, hB0⟩ : ∃ q, w.heap.size = q := ⟨_, rfl⟩
  have hP0 : PairAt W0 B0 35 x z := by rw [hW0, ← hB0]; exact PairAt.made _ _ _ _
  have hb0 : Below w.heap.size w W0 := by rw [hW0]; exact (Below.refl _ _).alloc (Nat.le_refl _) _
  have HP := Lib.hid hP0
  have HB := Lib.hid hb0
  have HGT := Lib.hid (rGreatTab W0 xa n (n + ca) c p (hx.belowAt hb0 (Nat.le_refl _)) hn)
  have HAW := Lib.hid mawake
  have HG := Lib.hid hG
  have HLO := Lib.hid (fun V => rLongM x z V)
  unfold ValP at HAW ⊢
  have hgf := greatTb_false hg
  have hft : FitT n c := ⟨by omega, fun i hi => by have := hgf.2 i hi; omega⟩
  have hi : ¬ (40 : Int) < (s.size : Int) := by omega
  have HTB := Lib.hid (fun V (hB : Below w.heap.size w V) => pTab V xa n (n + ca) (by omega) c p (hx.belowAt hB (Nat.le_refl _)) hft)
  rw [ht] at HTB
  rw [hg] at HGT
  rw [hl] at HLO
  have HX := Lib.hid hx
  have hR := fun V (hB : Below w.heap.size w V) => hx.belowAt hB (Nat.le_refl _)
  have HR := Lib.hid hR
  have HTX := Lib.hid (fun V (hB : Below w.heap.size w V) => hA V xa ca (hG.below hB) (hR V hB))
  have HPX := Lib.hid (fun V (hB : Below w.heap.size w V) => hA2 V xa ca (hG.below hB) (hR V hB))
  unfold ValP strE at HTX
  unfold ValP monE at HPX
  have n1 := fun X Y W => money_guard .neq X Y x z x z W
  have n2 := money_nsame x z
  have _ := hts
  clear hA hA2 hts
  have hb2 : (g != 0) = true := by rw [bne_iff_ne]; exact hg0
  have HPS := Lib.hid (fun V (hB : Below w.heap.size w V) => hBp V xa ca (hG.below hB) (hR V hB))
  unfold ValP monE at HPS
  have g1 := fun X Y W => money_guarde X Y ⟨#[]⟩ ⟨#[]⟩ ⟨#[]⟩ ⟨#[]⟩ W
  have g2 := money_same ⟨#[]⟩ ⟨#[]⟩
  clear hg0 hBp
  clear hG hx hn hP0 hb0 hg hl hs hgf hft ht hR
  go_enter Tryz.func10, Tryz.ntmps10
  go_upto_region 1 with fail
  rw [← hW0]
  try rw [hB0]
  clear hW0
  obtain ⟨q1, q2, _, _⟩ := HP.out.cells
  go_wp2_with fail
  refine HGT.out.mono ?_
  rintro _ _ ⟨rfl, rfl⟩
  have hb := HB.out
  have hP := HP.out
  go_wp2_with fail
  refine (HLO.out _).mono ?_
  rintro _ w3 ⟨rfl, hB⟩
  replace hb := hb.trans (hB.mono hb.size)
  replace hP := hP.below hB
  clear hB q1 q2
  go_wp2_with fail
  refine (HTB.out _ (by first | exact hb | exact hB0 ▸ hb)).mono ?_
  rintro _ w4 ⟨rfl, hB⟩
  replace hb := hb.trans (hB.mono hb.size)
  replace hP := hP.below hB
  clear hB
  obtain ⟨q1, q2, _, _⟩ := hP.cells
  go_wp2_with fail
  refine (HTX.out _ (by first | exact hb | exact hB0 ▸ hb)).mono ?_
  rintro _ w5 ⟨rfl, hB⟩
  replace hb := hb.trans (hB.mono hb.size)
  replace hP := hP.below hB
  clear hB q1 q2
  go_wp2_with fail
  refine (HPX.out _ (by first | exact hb | exact hB0 ▸ hb)).mono ?_
  rintro _ w6 ⟨rfl, hB⟩
  replace hb := hb.trans (hB.mono hb.size)
  replace hP := hP.below hB
  clear hB
  obtain ⟨E9, hE9⟩ : ∃ q, w6.heap.size = q := ⟨_, rfl⟩
  obtain ⟨X9, hX9⟩ : ∃ V, V = w6.alloc (.cells #[.string x, .string z] 35) := ⟨_, rfl⟩
  have hE : PairAt X9 E9 35 x z := by rw [hX9, ← hE9]; exact PairAt.made _ _ _ _
  replace hP : PairAt X9 B0 35 x z := by rw [hX9]; exact hP.alloc _
  replace hb : Below w.heap.size w X9 := by rw [hX9]; exact hb.alloc hb.size _
  go_upto_region 6 with fail
  rw [← hX9]
  try rw [hE9]
  clear hX9 hE9
  obtain ⟨q1, q2, _, _⟩ := hP.cells
  obtain ⟨q3, q4, _, _⟩ := hE.cells
  go_wp2_with fail
  clear q1 q2 q3 q4 hE
  refine (HPS.out _ (by first | exact hb | exact hB0 ▸ hb)).mono ?_
  rintro _ w7 ⟨rfl, hB⟩
  replace hb := hb.trans (hB.mono hb.size)
  clear hB
  obtain ⟨E11, hE11⟩ : ∃ q, w7.heap.size = q := ⟨_, rfl⟩
  obtain ⟨X11, hX11⟩ : ∃ V, V = w7.alloc (.cells #[.string ⟨#[]⟩, .string ⟨#[]⟩] 35) := ⟨_, rfl⟩
  have hE : PairAt X11 E11 35 ⟨#[]⟩ ⟨#[]⟩ := by rw [hX11, ← hE11]; exact PairAt.made _ _ _ _
  replace hb : Below w.heap.size w X11 := by rw [hX11]; exact hb.alloc hb.size _
  go_upto_region 9 with fail
  rw [← hX11]
  try rw [hE11]
  clear hX11 hE11
  obtain ⟨q1, q2, _, _⟩ := hE.cells
  go_wp2_with fail
  refine (HAW.out _ (HG.out.below (by first | exact hb | exact hB0 ▸ hb))).mono ?_
  rintro _ w2 ⟨rfl, hB⟩
  go_wp2_with fail
  go_ret
  have hbb := hb.trans (hB.mono hb.size)
  exact ⟨rfl, by first | exact hbb | exact hB0 ▸ hbb⟩
set_option maxRecDepth 100000 in
set_option maxHeartbeats 16000000 in
theorem mte_01a (xa : Option Addr) (n ca : Nat) (c : Nat → ByteArray) (p : Nat → Int) (x z s : ByteArray) (w : World) (hG : Ground w) (hx : Rt w xa n c p) (hn : n ≤ 9223372036854775807) (hg : greatTb n c = false) (hl : wideB x z = false) (hs : s.size ≤ 40) (ht : tabE n c p = 0) (tx : ByteArray) (e : Int) (he : e ≠ 0) (hA : OnT 31 n c p x z (strE tx e)) (cd aa : ByteArray) (i : Nat) (z2 T1 T2 u1 v1 : ByteArray) (pt : Int) (hD : ReadAt n c p s cd aa i z2 T1 T2 u1 v1 0 pt) (hpt : pt = -1) :
    Calls Tryz.prog 10 #[.slice xa n (n + ca), .agg #[.string x, .string z], .string s] w (ValP (.bool true) w) := by
  obtain ⟨W0, hW0⟩ : ∃ V, V = w.alloc (.cells #[.string x, .string z] 35) := ⟨_, rfl⟩
  obtain ⟨B0, hB0⟩ : ∃ q, w.heap.size = q := ⟨_, rfl⟩
  have hP0 : PairAt W0 B0 35 x z := by rw [hW0, ← hB0]; exact PairAt.made _ _ _ _
  have hb0 : Below w.heap.size w W0 := by rw [hW0]; exact (Below.refl _ _).alloc (Nat.le_refl _) _
  have HP := Lib.hid hP0
  have HB := Lib.hid hb0
  have HGT := Lib.hid (rGreatTab W0 xa n (n + ca) c p (hx.belowAt hb0 (Nat.le_refl _)) hn)
  have HAW := Lib.hid mawake
  have HG := Lib.hid hG
  have HLO := Lib.hid (fun V => rLongM x z V)
  unfold ValP at HAW ⊢
  have hgf := greatTb_false hg
  have hft : FitT n c := ⟨by omega, fun i hi => by have := hgf.2 i hi; omega⟩
  have hi : ¬ (40 : Int) < (s.size : Int) := by omega
  have HTB := Lib.hid (fun V (hB : Below w.heap.size w V) => pTab V xa n (n + ca) (by omega) c p (hx.belowAt hB (Nat.le_refl _)) hft)
  rw [ht] at HTB
  rw [hg] at HGT
  rw [hl] at HLO
  have HX := Lib.hid hx
  have hR := fun V (hB : Below w.heap.size w V) => hx.belowAt hB (Nat.le_refl _)
  have HR := Lib.hid hR
  have hA' := hA
  have hb1 : (e == 0) = false := by rw [beq_eq_false_iff_ne]; exact he
  have HTX := Lib.hid (fun V (hB : Below w.heap.size w V) => hA' V xa ca (hG.below hB) (hR V hB))
  unfold ValP strE at HTX
  clear hA hA' he
  have hmax := hft.max
  have HPS := Lib.hid (fun V (hB : Below w.heap.size w V) => hD.par V xa ca (hG.below hB) (hR V hB))
  have HTY := Lib.hid (fun V (hB : Below w.heap.size w V) => hD.text V xa ca (hG.below hB) (hR V hB))
  have HFI := Lib.hid (fun V (hB : Below w.heap.size w V) => pFind V xa n (n + ca) c p cd (hR V hB) (by omega))
  rw [hD.find] at HFI
  have hii := idx_is hD.find
  have hcx : c i = cd := of_decide_eq_true hii.2.1
  have HQ1 := Lib.hid (fun V (hB : Below w.heap.size w V) => hD.f1 V (hG.below hB))
  have HQ2 := Lib.hid (fun V (hB : Below w.heap.size w V) => hD.f2 V (hG.below hB))
  have HZ1 := Lib.hid (fun V => Tryz.strings_TrimSuffix s (ByteArray.mk #[32] ++ cd) V (by omega))
  have HZ2 := Lib.hid (fun V => Tryz.strings_TrimSuffix z2 (ByteArray.mk #[32] ++ cd) V (by have := hD.zsz; omega))
  rw [show ByteArray.mk (Lib.trimSuffix s.data.toList (ByteArray.mk #[32] ++ cd).data.toList).toArray = T1 by have h := trim_money T1 cd; rw [← hD.s_eq] at h; exact h] at HZ1
  rw [show ByteArray.mk (Lib.trimSuffix z2.data.toList (ByteArray.mk #[32] ++ cd).data.toList).toArray = T2 by have h := trim_money T2 cd; rw [← hD.z_eq] at h; exact h] at HZ2
  have HIX := Lib.hid (fun V => Tryz.strings_IndexByte z2 46 V)
  rw [show Lib.indexByte z2.data.toList (46 : Int).toNat.toUInt8 = pt from hD.dot] at HIX
  unfold curV at HFI
  dsimp only at HFI
  rw [hcx] at HFI
  obtain ⟨pi, hpi⟩ : ∃ y, p i = y := ⟨_, rfl⟩
  have hplc := hD.plc
  rw [hpi] at HFI hplc
  have hcs := code_size hD.code
  have hb3 : 1 + cd.size ≤ 1000000 := by omega
  have hzs := hD.zsz
  unfold ValP strE at HTY
  unfold ValP monE at HPS
  unfold fraE at HQ1 HQ2
  have n3 := fun X Y W => frac_guards X Y u1 v1 u1 v1 W
  have n4 := frac_same u1 v1
  have hmax3 : ∀ W : World, (Builtin.max_ #[29, 29, 29] 29 #[.int .i64 0, .int .i64 0, .int .i64 0]).run Tryz.prog W = .ok (.int .i64 0) W := fun W => by simp [Builtin.max_, Builtin.max2]
  obtain rfl : pt = -1 := hpt
  obtain rfl : pi = 0 := by rcases hplc with h | h <;> omega
  clear hD hii hcx hpi hplc hcs hzs hmax
  clear hG hx hn hP0 hb0 hg hl hs hgf hft ht hR
  go_enter Tryz.func10, Tryz.ntmps10
  go_upto_region 1 with fail
  rw [← hW0]
  try rw [hB0]
  clear hW0
  obtain ⟨q1, q2, _, _⟩ := HP.out.cells
  go_wp2_with fail
  refine HGT.out.mono ?_
  rintro _ _ ⟨rfl, rfl⟩
  have hb := HB.out
  have hP := HP.out
  go_wp2_with fail
  refine (HLO.out _).mono ?_
  rintro _ w3 ⟨rfl, hB⟩
  replace hb := hb.trans (hB.mono hb.size)
  replace hP := hP.below hB
  clear hB q1 q2
  go_wp2_with fail
  refine (HTB.out _ (by first | exact hb | exact hB0 ▸ hb)).mono ?_
  rintro _ w4 ⟨rfl, hB⟩
  replace hb := hb.trans (hB.mono hb.size)
  replace hP := hP.below hB
  clear hB
  obtain ⟨q1, q2, _, _⟩ := hP.cells
  go_wp2_with fail
  refine (HTX.out _ (by first | exact hb | exact hB0 ▸ hb)).mono ?_
  rintro _ w5 ⟨rfl, hB⟩
  replace hb := hb.trans (hB.mono hb.size)
  replace hP := hP.below hB
  clear hB q1 q2
  go_wp2_with fail
  refine (HPS.out _ (by first | exact hb | exact hB0 ▸ hb)).mono ?_
  rintro _ w7 ⟨rfl, hB⟩
  replace hb := hb.trans (hB.mono hb.size)
  clear hB
  obtain ⟨E11, hE11⟩ : ∃ q, w7.heap.size = q := ⟨_, rfl⟩
  obtain ⟨X11, hX11⟩ : ∃ V, V = w7.alloc (.cells #[.string cd, .string aa] 35) := ⟨_, rfl⟩
  have hE : PairAt X11 E11 35 cd aa := by rw [hX11, ← hE11]; exact PairAt.made _ _ _ _
  replace hb : Below w.heap.size w X11 := by rw [hX11]; exact hb.alloc hb.size _
  go_upto_region 9 with fail
  rw [← hX11]
  try rw [hE11]
  clear hX11 hE11
  obtain ⟨q1, q2, _, _⟩ := hE.cells
  go_wp2_with fail
  refine (HTY.out _ (by first | exact hb | exact hB0 ▸ hb)).mono ?_
  rintro _ w8 ⟨rfl, hB⟩
  replace hb := hb.trans (hB.mono hb.size)
  replace hE := hE.below hB
  clear hB q1 q2
  obtain ⟨q1, q2, _, _⟩ := hE.cells
  go_wp2_with fail
  refine (HZ1.out _).mono ?_
  rintro _ _ ⟨rfl, rfl⟩
  go_wp2_with fail
  refine (HQ1.out _ (by first | exact hb | exact hB0 ▸ hb)).mono ?_
  rintro _ wq15 ⟨rfl, hB⟩
  replace hb := hb.trans (hB.mono hb.size)
  replace hE := hE.below hB
  clear hB
  obtain ⟨E15, hE15⟩ : ∃ q, wq15.heap.size = q := ⟨_, rfl⟩
  obtain ⟨X15, hX15⟩ : ∃ V, V = wq15.alloc (.cells #[.string u1, .string v1] 59) := ⟨_, rfl⟩
  have hF15 : PairAt X15 E15 59 u1 v1 := by rw [hX15, ← hE15]; exact PairAt.made _ _ _ _
  replace hE := (hE.alloc (.cells #[.string u1, .string v1] 59))
  rw [← hX15] at hE
  replace hb : Below w.heap.size w X15 := by rw [hX15]; exact hb.alloc hb.size _
  clear q1 q2
  go_upto_region 13 with fail
  rw [← hX15]
  try rw [hE15]
  clear hX15 hE15
  obtain ⟨q1, q2, _, _⟩ := hE.cells
  go_wp2_with fail
  refine (HZ2.out _).mono ?_
  rintro _ _ ⟨rfl, rfl⟩
  go_wp2_with fail
  refine (HQ2.out _ (by first | exact hb | exact hB0 ▸ hb)).mono ?_
  rintro _ wq17 ⟨rfl, hB⟩
  replace hb := hb.trans (hB.mono hb.size)
  replace hE := hE.below hB
  replace hF15 := hF15.below hB
  clear hB
  obtain ⟨E17, hE17⟩ : ∃ q, wq17.heap.size = q := ⟨_, rfl⟩
  obtain ⟨X17, hX17⟩ : ∃ V, V = wq17.alloc (.cells #[.string u1, .string v1] 59) := ⟨_, rfl⟩
  have hF17 : PairAt X17 E17 59 u1 v1 := by rw [hX17, ← hE17]; exact PairAt.made _ _ _ _
  replace hE := (hE.alloc (.cells #[.string u1, .string v1] 59))
  rw [← hX17] at hE
  replace hF15 := (hF15.alloc (.cells #[.string u1, .string v1] 59))
  rw [← hX17] at hF15
  replace hb : Below w.heap.size w X17 := by rw [hX17]; exact hb.alloc hb.size _
  clear q1 q2
  go_upto_region 14 with fail
  rw [← hX17]
  try rw [hE17]
  clear hX17 hE17
  obtain ⟨q1, q2, _, _⟩ := hE.cells
  go_wp2_with fail
  refine (HFI.out _ (by first | exact hb | exact hB0 ▸ hb)).mono ?_
  rintro _ wf ⟨rfl, hB⟩
  replace hb := hb.trans (hB.mono hb.size)
  replace hF15 := hF15.below hB
  replace hF17 := hF17.below hB
  clear hB q1 q2 hE
  obtain ⟨E19, hE19⟩ : ∃ q, wf.heap.size = q := ⟨_, rfl⟩
  obtain ⟨X19, hX19⟩ : ∃ V, V = wf.alloc (.cells #[.string cd, .int .i64 0] 26) := ⟨_, rfl⟩
  have hF19 : TwoAt X19 E19 26 (.string cd) (.int .i64 0) := by rw [hX19, ← hE19]; exact TwoAt.made _ _ _ _
  replace hF15 := hF15.alloc (.cells #[.string cd, .int .i64 0] 26)
  replace hF17 := hF17.alloc (.cells #[.string cd, .int .i64 0] 26)
  rw [← hX19] at hF15 hF17
  replace hb : Below w.heap.size w X19 := by rw [hX19]; exact hb.alloc hb.size _
  go_upto_region 15 with fail
  rw [← hX19]
  try rw [hE19]
  clear hX19 hE19
  go_wp2_with fail
  refine (HIX.out _).mono ?_
  rintro _ _ ⟨rfl, rfl⟩
  obtain ⟨a0, a1, _, _⟩ := hF15.cells
  obtain ⟨b0, b1, _, _⟩ := hF17.cells
  obtain ⟨c0, c1, _, _⟩ := hF19.cells
  go_wp2_with fail
  refine (HAW.out _ (HG.out.below (by first | exact hb | exact hB0 ▸ hb))).mono ?_
  rintro _ w2 ⟨rfl, hB⟩
  go_wp2_with fail
  go_ret
  have hbb := hb.trans (hB.mono hb.size)
  exact ⟨rfl, by first | exact hbb | exact hB0 ▸ hbb⟩
set_option maxRecDepth 100000 in
set_option maxHeartbeats 16000000 in
theorem mte_11a (xa : Option Addr) (n ca : Nat) (c : Nat → ByteArray) (p : Nat → Int) (x z s : ByteArray) (w : World) (hG : Ground w) (hx : Rt w xa n c p) (hn : n ≤ 9223372036854775807) (hg : greatTb n c = false) (hl : wideB x z = false) (hs : s.size ≤ 40) (ht : tabE n c p = 0) (tx : ByteArray) (hts : tx.size ≤ 1000) (hA : OnT 31 n c p x z (strE tx 0)) (hA2 : OnP 33 n c p tx (monE x z 0)) (cd aa : ByteArray) (i : Nat) (z2 T1 T2 u1 v1 : ByteArray) (pt : Int) (hD : ReadAt n c p s cd aa i z2 T1 T2 u1 v1 0 pt) (hpt : pt = -1) :
    Calls Tryz.prog 10 #[.slice xa n (n + ca), .agg #[.string x, .string z], .string s] w (ValP (.bool true) w) := by
  obtain ⟨W0, hW0⟩ : ∃ V, V = w.alloc (.cells #[.string x, .string z] 35) := ⟨_, rfl⟩
  obtain ⟨B0, hB0⟩ : ∃ q, w.heap.size = q := ⟨_, rfl⟩
  have hP0 : PairAt W0 B0 35 x z := by rw [hW0, ← hB0]; exact PairAt.made _ _ _ _
  have hb0 : Below w.heap.size w W0 := by rw [hW0]; exact (Below.refl _ _).alloc (Nat.le_refl _) _
  have HP := Lib.hid hP0
  have HB := Lib.hid hb0
  have HGT := Lib.hid (rGreatTab W0 xa n (n + ca) c p (hx.belowAt hb0 (Nat.le_refl _)) hn)
  have HAW := Lib.hid mawake
  have HG := Lib.hid hG
  have HLO := Lib.hid (fun V => rLongM x z V)
  unfold ValP at HAW ⊢
  have hgf := greatTb_false hg
  have hft : FitT n c := ⟨by omega, fun i hi => by have := hgf.2 i hi; omega⟩
  have hi : ¬ (40 : Int) < (s.size : Int) := by omega
  have HTB := Lib.hid (fun V (hB : Below w.heap.size w V) => pTab V xa n (n + ca) (by omega) c p (hx.belowAt hB (Nat.le_refl _)) hft)
  rw [ht] at HTB
  rw [hg] at HGT
  rw [hl] at HLO
  have HX := Lib.hid hx
  have hR := fun V (hB : Below w.heap.size w V) => hx.belowAt hB (Nat.le_refl _)
  have HR := Lib.hid hR
  have HTX := Lib.hid (fun V (hB : Below w.heap.size w V) => hA V xa ca (hG.below hB) (hR V hB))
  have HPX := Lib.hid (fun V (hB : Below w.heap.size w V) => hA2 V xa ca (hG.below hB) (hR V hB))
  unfold ValP strE at HTX
  unfold ValP monE at HPX
  have n1 := fun X Y W => money_guard .neq X Y x z x z W
  have n2 := money_nsame x z
  have _ := hts
  clear hA hA2 hts
  have hmax := hft.max
  have HPS := Lib.hid (fun V (hB : Below w.heap.size w V) => hD.par V xa ca (hG.below hB) (hR V hB))
  have HTY := Lib.hid (fun V (hB : Below w.heap.size w V) => hD.text V xa ca (hG.below hB) (hR V hB))
  have HFI := Lib.hid (fun V (hB : Below w.heap.size w V) => pFind V xa n (n + ca) c p cd (hR V hB) (by omega))
  rw [hD.find] at HFI
  have hii := idx_is hD.find
  have hcx : c i = cd := of_decide_eq_true hii.2.1
  have HQ1 := Lib.hid (fun V (hB : Below w.heap.size w V) => hD.f1 V (hG.below hB))
  have HQ2 := Lib.hid (fun V (hB : Below w.heap.size w V) => hD.f2 V (hG.below hB))
  have HZ1 := Lib.hid (fun V => Tryz.strings_TrimSuffix s (ByteArray.mk #[32] ++ cd) V (by omega))
  have HZ2 := Lib.hid (fun V => Tryz.strings_TrimSuffix z2 (ByteArray.mk #[32] ++ cd) V (by have := hD.zsz; omega))
  rw [show ByteArray.mk (Lib.trimSuffix s.data.toList (ByteArray.mk #[32] ++ cd).data.toList).toArray = T1 by have h := trim_money T1 cd; rw [← hD.s_eq] at h; exact h] at HZ1
  rw [show ByteArray.mk (Lib.trimSuffix z2.data.toList (ByteArray.mk #[32] ++ cd).data.toList).toArray = T2 by have h := trim_money T2 cd; rw [← hD.z_eq] at h; exact h] at HZ2
  have HIX := Lib.hid (fun V => Tryz.strings_IndexByte z2 46 V)
  rw [show Lib.indexByte z2.data.toList (46 : Int).toNat.toUInt8 = pt from hD.dot] at HIX
  unfold curV at HFI
  dsimp only at HFI
  rw [hcx] at HFI
  obtain ⟨pi, hpi⟩ : ∃ y, p i = y := ⟨_, rfl⟩
  have hplc := hD.plc
  rw [hpi] at HFI hplc
  have hcs := code_size hD.code
  have hb3 : 1 + cd.size ≤ 1000000 := by omega
  have hzs := hD.zsz
  unfold ValP strE at HTY
  unfold ValP monE at HPS
  unfold fraE at HQ1 HQ2
  have n3 := fun X Y W => frac_guards X Y u1 v1 u1 v1 W
  have n4 := frac_same u1 v1
  have hmax3 : ∀ W : World, (Builtin.max_ #[29, 29, 29] 29 #[.int .i64 0, .int .i64 0, .int .i64 0]).run Tryz.prog W = .ok (.int .i64 0) W := fun W => by simp [Builtin.max_, Builtin.max2]
  obtain rfl : pt = -1 := hpt
  obtain rfl : pi = 0 := by rcases hplc with h | h <;> omega
  clear hD hii hcx hpi hplc hcs hzs hmax
  clear hG hx hn hP0 hb0 hg hl hs hgf hft ht hR
  go_enter Tryz.func10, Tryz.ntmps10
  go_upto_region 1 with fail
  rw [← hW0]
  try rw [hB0]
  clear hW0
  obtain ⟨q1, q2, _, _⟩ := HP.out.cells
  go_wp2_with fail
  refine HGT.out.mono ?_
  rintro _ _ ⟨rfl, rfl⟩
  have hb := HB.out
  have hP := HP.out
  go_wp2_with fail
  refine (HLO.out _).mono ?_
  rintro _ w3 ⟨rfl, hB⟩
  replace hb := hb.trans (hB.mono hb.size)
  replace hP := hP.below hB
  clear hB q1 q2
  go_wp2_with fail
  refine (HTB.out _ (by first | exact hb | exact hB0 ▸ hb)).mono ?_
  rintro _ w4 ⟨rfl, hB⟩
  replace hb := hb.trans (hB.mono hb.size)
  replace hP := hP.below hB
  clear hB
  obtain ⟨q1, q2, _, _⟩ := hP.cells
  go_wp2_with fail
  refine (HTX.out _ (by first | exact hb | exact hB0 ▸ hb)).mono ?_
  rintro _ w5 ⟨rfl, hB⟩
  replace hb := hb.trans (hB.mono hb.size)
  replace hP := hP.below hB
  clear hB q1 q2
  go_wp2_with fail
  refine (HPX.out _ (by first | exact hb | exact hB0 ▸ hb)).mono ?_
  rintro _ w6 ⟨rfl, hB⟩
  replace hb := hb.trans (hB.mono hb.size)
  replace hP := hP.below hB
  clear hB
  obtain ⟨E9, hE9⟩ : ∃ q, w6.heap.size = q := ⟨_, rfl⟩
  obtain ⟨X9, hX9⟩ : ∃ V, V = w6.alloc (.cells #[.string x, .string z] 35) := ⟨_, rfl⟩
  have hE : PairAt X9 E9 35 x z := by rw [hX9, ← hE9]; exact PairAt.made _ _ _ _
  replace hP : PairAt X9 B0 35 x z := by rw [hX9]; exact hP.alloc _
  replace hb : Below w.heap.size w X9 := by rw [hX9]; exact hb.alloc hb.size _
  go_upto_region 6 with fail
  rw [← hX9]
  try rw [hE9]
  clear hX9 hE9
  obtain ⟨q1, q2, _, _⟩ := hP.cells
  obtain ⟨q3, q4, _, _⟩ := hE.cells
  go_wp2_with fail
  clear q1 q2 q3 q4 hE
  refine (HPS.out _ (by first | exact hb | exact hB0 ▸ hb)).mono ?_
  rintro _ w7 ⟨rfl, hB⟩
  replace hb := hb.trans (hB.mono hb.size)
  clear hB
  obtain ⟨E11, hE11⟩ : ∃ q, w7.heap.size = q := ⟨_, rfl⟩
  obtain ⟨X11, hX11⟩ : ∃ V, V = w7.alloc (.cells #[.string cd, .string aa] 35) := ⟨_, rfl⟩
  have hE : PairAt X11 E11 35 cd aa := by rw [hX11, ← hE11]; exact PairAt.made _ _ _ _
  replace hb : Below w.heap.size w X11 := by rw [hX11]; exact hb.alloc hb.size _
  go_upto_region 9 with fail
  rw [← hX11]
  try rw [hE11]
  clear hX11 hE11
  obtain ⟨q1, q2, _, _⟩ := hE.cells
  go_wp2_with fail
  refine (HTY.out _ (by first | exact hb | exact hB0 ▸ hb)).mono ?_
  rintro _ w8 ⟨rfl, hB⟩
  replace hb := hb.trans (hB.mono hb.size)
  replace hE := hE.below hB
  clear hB q1 q2
  obtain ⟨q1, q2, _, _⟩ := hE.cells
  go_wp2_with fail
  refine (HZ1.out _).mono ?_
  rintro _ _ ⟨rfl, rfl⟩
  go_wp2_with fail
  refine (HQ1.out _ (by first | exact hb | exact hB0 ▸ hb)).mono ?_
  rintro _ wq15 ⟨rfl, hB⟩
  replace hb := hb.trans (hB.mono hb.size)
  replace hE := hE.below hB
  clear hB
  obtain ⟨E15, hE15⟩ : ∃ q, wq15.heap.size = q := ⟨_, rfl⟩
  obtain ⟨X15, hX15⟩ : ∃ V, V = wq15.alloc (.cells #[.string u1, .string v1] 59) := ⟨_, rfl⟩
  have hF15 : PairAt X15 E15 59 u1 v1 := by rw [hX15, ← hE15]; exact PairAt.made _ _ _ _
  replace hE := (hE.alloc (.cells #[.string u1, .string v1] 59))
  rw [← hX15] at hE
  replace hb : Below w.heap.size w X15 := by rw [hX15]; exact hb.alloc hb.size _
  clear q1 q2
  go_upto_region 13 with fail
  rw [← hX15]
  try rw [hE15]
  clear hX15 hE15
  obtain ⟨q1, q2, _, _⟩ := hE.cells
  go_wp2_with fail
  refine (HZ2.out _).mono ?_
  rintro _ _ ⟨rfl, rfl⟩
  go_wp2_with fail
  refine (HQ2.out _ (by first | exact hb | exact hB0 ▸ hb)).mono ?_
  rintro _ wq17 ⟨rfl, hB⟩
  replace hb := hb.trans (hB.mono hb.size)
  replace hE := hE.below hB
  replace hF15 := hF15.below hB
  clear hB
  obtain ⟨E17, hE17⟩ : ∃ q, wq17.heap.size = q := ⟨_, rfl⟩
  obtain ⟨X17, hX17⟩ : ∃ V, V = wq17.alloc (.cells #[.string u1, .string v1] 59) := ⟨_, rfl⟩
  have hF17 : PairAt X17 E17 59 u1 v1 := by rw [hX17, ← hE17]; exact PairAt.made _ _ _ _
  replace hE := (hE.alloc (.cells #[.string u1, .string v1] 59))
  rw [← hX17] at hE
  replace hF15 := (hF15.alloc (.cells #[.string u1, .string v1] 59))
  rw [← hX17] at hF15
  replace hb : Below w.heap.size w X17 := by rw [hX17]; exact hb.alloc hb.size _
  clear q1 q2
  go_upto_region 14 with fail
  rw [← hX17]
  try rw [hE17]
  clear hX17 hE17
  obtain ⟨q1, q2, _, _⟩ := hE.cells
  go_wp2_with fail
  refine (HFI.out _ (by first | exact hb | exact hB0 ▸ hb)).mono ?_
  rintro _ wf ⟨rfl, hB⟩
  replace hb := hb.trans (hB.mono hb.size)
  replace hF15 := hF15.below hB
  replace hF17 := hF17.below hB
  clear hB q1 q2 hE
  obtain ⟨E19, hE19⟩ : ∃ q, wf.heap.size = q := ⟨_, rfl⟩
  obtain ⟨X19, hX19⟩ : ∃ V, V = wf.alloc (.cells #[.string cd, .int .i64 0] 26) := ⟨_, rfl⟩
  have hF19 : TwoAt X19 E19 26 (.string cd) (.int .i64 0) := by rw [hX19, ← hE19]; exact TwoAt.made _ _ _ _
  replace hF15 := hF15.alloc (.cells #[.string cd, .int .i64 0] 26)
  replace hF17 := hF17.alloc (.cells #[.string cd, .int .i64 0] 26)
  rw [← hX19] at hF15 hF17
  replace hb : Below w.heap.size w X19 := by rw [hX19]; exact hb.alloc hb.size _
  go_upto_region 15 with fail
  rw [← hX19]
  try rw [hE19]
  clear hX19 hE19
  go_wp2_with fail
  refine (HIX.out _).mono ?_
  rintro _ _ ⟨rfl, rfl⟩
  obtain ⟨a0, a1, _, _⟩ := hF15.cells
  obtain ⟨b0, b1, _, _⟩ := hF17.cells
  obtain ⟨c0, c1, _, _⟩ := hF19.cells
  go_wp2_with fail
  refine (HAW.out _ (HG.out.below (by first | exact hb | exact hB0 ▸ hb))).mono ?_
  rintro _ w2 ⟨rfl, hB⟩
  go_wp2_with fail
  go_ret
  have hbb := hb.trans (hB.mono hb.size)
  exact ⟨rfl, by first | exact hbb | exact hB0 ▸ hbb⟩
set_option maxRecDepth 100000 in
set_option maxHeartbeats 16000000 in
theorem mte_01b (xa : Option Addr) (n ca : Nat) (c : Nat → ByteArray) (p : Nat → Int) (x z s : ByteArray) (w : World) (hG : Ground w) (hx : Rt w xa n c p) (hn : n ≤ 9223372036854775807) (hg : greatTb n c = false) (hl : wideB x z = false) (hs : s.size ≤ 40) (ht : tabE n c p = 0) (tx : ByteArray) (e : Int) (he : e ≠ 0) (hA : OnT 31 n c p x z (strE tx e)) (cd aa : ByteArray) (i : Nat) (z2 T1 T2 u1 v1 : ByteArray) (pt : Int) (hD : ReadAt n c p s cd aa i z2 T1 T2 u1 v1 0 pt) (hpt : 0 ≤ pt) :
    Calls Tryz.prog 10 #[.slice xa n (n + ca), .agg #[.string x, .string z], .string s] w (ValP (.bool true) w) := by
  obtain ⟨W0, hW0⟩ : ∃ V, V = w.alloc (.cells #[.string x, .string z] 35) := ⟨_, rfl⟩
  obtain ⟨B0, hB0⟩ : ∃ q, w.heap.size = q := ⟨_, rfl⟩
  have hP0 : PairAt W0 B0 35 x z := by rw [hW0, ← hB0]; exact PairAt.made _ _ _ _
  have hb0 : Below w.heap.size w W0 := by rw [hW0]; exact (Below.refl _ _).alloc (Nat.le_refl _) _
  have HP := Lib.hid hP0
  have HB := Lib.hid hb0
  have HGT := Lib.hid (rGreatTab W0 xa n (n + ca) c p (hx.belowAt hb0 (Nat.le_refl _)) hn)
  have HAW := Lib.hid mawake
  have HG := Lib.hid hG
  have HLO := Lib.hid (fun V => rLongM x z V)
  unfold ValP at HAW ⊢
  have hgf := greatTb_false hg
  have hft : FitT n c := ⟨by omega, fun i hi => by have := hgf.2 i hi; omega⟩
  have hi : ¬ (40 : Int) < (s.size : Int) := by omega
  have HTB := Lib.hid (fun V (hB : Below w.heap.size w V) => pTab V xa n (n + ca) (by omega) c p (hx.belowAt hB (Nat.le_refl _)) hft)
  rw [ht] at HTB
  rw [hg] at HGT
  rw [hl] at HLO
  have HX := Lib.hid hx
  have hR := fun V (hB : Below w.heap.size w V) => hx.belowAt hB (Nat.le_refl _)
  have HR := Lib.hid hR
  have hA' := hA
  have hb1 : (e == 0) = false := by rw [beq_eq_false_iff_ne]; exact he
  have HTX := Lib.hid (fun V (hB : Below w.heap.size w V) => hA' V xa ca (hG.below hB) (hR V hB))
  unfold ValP strE at HTX
  clear hA hA' he
  have hmax := hft.max
  have HPS := Lib.hid (fun V (hB : Below w.heap.size w V) => hD.par V xa ca (hG.below hB) (hR V hB))
  have HTY := Lib.hid (fun V (hB : Below w.heap.size w V) => hD.text V xa ca (hG.below hB) (hR V hB))
  have HFI := Lib.hid (fun V (hB : Below w.heap.size w V) => pFind V xa n (n + ca) c p cd (hR V hB) (by omega))
  rw [hD.find] at HFI
  have hii := idx_is hD.find
  have hcx : c i = cd := of_decide_eq_true hii.2.1
  have HQ1 := Lib.hid (fun V (hB : Below w.heap.size w V) => hD.f1 V (hG.below hB))
  have HQ2 := Lib.hid (fun V (hB : Below w.heap.size w V) => hD.f2 V (hG.below hB))
  have HZ1 := Lib.hid (fun V => Tryz.strings_TrimSuffix s (ByteArray.mk #[32] ++ cd) V (by omega))
  have HZ2 := Lib.hid (fun V => Tryz.strings_TrimSuffix z2 (ByteArray.mk #[32] ++ cd) V (by have := hD.zsz; omega))
  rw [show ByteArray.mk (Lib.trimSuffix s.data.toList (ByteArray.mk #[32] ++ cd).data.toList).toArray = T1 by have h := trim_money T1 cd; rw [← hD.s_eq] at h; exact h] at HZ1
  rw [show ByteArray.mk (Lib.trimSuffix z2.data.toList (ByteArray.mk #[32] ++ cd).data.toList).toArray = T2 by have h := trim_money T2 cd; rw [← hD.z_eq] at h; exact h] at HZ2
  have HIX := Lib.hid (fun V => Tryz.strings_IndexByte z2 46 V)
  rw [show Lib.indexByte z2.data.toList (46 : Int).toNat.toUInt8 = pt from hD.dot] at HIX
  unfold curV at HFI
  dsimp only at HFI
  rw [hcx] at HFI
  obtain ⟨pi, hpi⟩ : ∃ y, p i = y := ⟨_, rfl⟩
  have hplc := hD.plc
  rw [hpi] at HFI hplc
  have hcs := code_size hD.code
  have hb3 : 1 + cd.size ≤ 1000000 := by omega
  have hzs := hD.zsz
  unfold ValP strE at HTY
  unfold ValP monE at HPS
  unfold fraE at HQ1 HQ2
  have n3 := fun X Y W => frac_guards X Y u1 v1 u1 v1 W
  have n4 := frac_same u1 v1
  have hmax3 : ∀ W : World, (Builtin.max_ #[29, 29, 29] 29 #[.int .i64 0, .int .i64 0, .int .i64 0]).run Tryz.prog W = .ok (.int .i64 0) W := fun W => by simp [Builtin.max_, Builtin.max2]
  have hge := tabE_zero ht
  have hlo := hge.low i hii.1
  have hhi := hge.high i hii.1
  rw [hpi] at hlo hhi
  have hpl : (z2.size : Int) - 4 - pt - 1 = pi := by rcases hplc with h | h <;> omega
  obtain ⟨N1, hN1⟩ : ∃ N : Int, (z2.size : Int) - 4 = N := ⟨_, rfl⟩
  have hw1 : IntKind.i64.wrap ((z2.size : Int) - 4) = N1 := by rw [IntWalk.i64_in _ (by omega)]; exact hN1
  obtain ⟨N2, hN2⟩ : ∃ N : Int, N1 - pt = N := ⟨_, rfl⟩
  have hw2 : IntKind.i64.wrap (N1 - pt) = N2 := by rw [IntWalk.i64_in _ (by omega)]; exact hN2
  have hw3 : IntKind.i64.wrap (N2 - 1) = pi := by rw [IntWalk.i64_in _ (by omega)]; omega
  clear hD hii hcx hpi hplc hcs hzs hmax hge hlo hhi hpl hN1 hN2
  clear hG hx hn hP0 hb0 hg hl hs hgf hft ht hR
  go_enter Tryz.func10, Tryz.ntmps10
  go_upto_region 1 with fail
  rw [← hW0]
  try rw [hB0]
  clear hW0
  obtain ⟨q1, q2, _, _⟩ := HP.out.cells
  go_wp2_with fail
  refine HGT.out.mono ?_
  rintro _ _ ⟨rfl, rfl⟩
  have hb := HB.out
  have hP := HP.out
  go_wp2_with fail
  refine (HLO.out _).mono ?_
  rintro _ w3 ⟨rfl, hB⟩
  replace hb := hb.trans (hB.mono hb.size)
  replace hP := hP.below hB
  clear hB q1 q2
  go_wp2_with fail
  refine (HTB.out _ (by first | exact hb | exact hB0 ▸ hb)).mono ?_
  rintro _ w4 ⟨rfl, hB⟩
  replace hb := hb.trans (hB.mono hb.size)
  replace hP := hP.below hB
  clear hB
  obtain ⟨q1, q2, _, _⟩ := hP.cells
  go_wp2_with fail
  refine (HTX.out _ (by first | exact hb | exact hB0 ▸ hb)).mono ?_
  rintro _ w5 ⟨rfl, hB⟩
  replace hb := hb.trans (hB.mono hb.size)
  replace hP := hP.below hB
  clear hB q1 q2
  go_wp2_with fail
  refine (HPS.out _ (by first | exact hb | exact hB0 ▸ hb)).mono ?_
  rintro _ w7 ⟨rfl, hB⟩
  replace hb := hb.trans (hB.mono hb.size)
  clear hB
  obtain ⟨E11, hE11⟩ : ∃ q, w7.heap.size = q := ⟨_, rfl⟩
  obtain ⟨X11, hX11⟩ : ∃ V, V = w7.alloc (.cells #[.string cd, .string aa] 35) := ⟨_, rfl⟩
  have hE : PairAt X11 E11 35 cd aa := by rw [hX11, ← hE11]; exact PairAt.made _ _ _ _
  replace hb : Below w.heap.size w X11 := by rw [hX11]; exact hb.alloc hb.size _
  go_upto_region 9 with fail
  rw [← hX11]
  try rw [hE11]
  clear hX11 hE11
  obtain ⟨q1, q2, _, _⟩ := hE.cells
  go_wp2_with fail
  refine (HTY.out _ (by first | exact hb | exact hB0 ▸ hb)).mono ?_
  rintro _ w8 ⟨rfl, hB⟩
  replace hb := hb.trans (hB.mono hb.size)
  replace hE := hE.below hB
  clear hB q1 q2
  obtain ⟨q1, q2, _, _⟩ := hE.cells
  go_wp2_with fail
  refine (HZ1.out _).mono ?_
  rintro _ _ ⟨rfl, rfl⟩
  go_wp2_with fail
  refine (HQ1.out _ (by first | exact hb | exact hB0 ▸ hb)).mono ?_
  rintro _ wq15 ⟨rfl, hB⟩
  replace hb := hb.trans (hB.mono hb.size)
  replace hE := hE.below hB
  clear hB
  obtain ⟨E15, hE15⟩ : ∃ q, wq15.heap.size = q := ⟨_, rfl⟩
  obtain ⟨X15, hX15⟩ : ∃ V, V = wq15.alloc (.cells #[.string u1, .string v1] 59) := ⟨_, rfl⟩
  have hF15 : PairAt X15 E15 59 u1 v1 := by rw [hX15, ← hE15]; exact PairAt.made _ _ _ _
  replace hE := (hE.alloc (.cells #[.string u1, .string v1] 59))
  rw [← hX15] at hE
  replace hb : Below w.heap.size w X15 := by rw [hX15]; exact hb.alloc hb.size _
  clear q1 q2
  go_upto_region 13 with fail
  rw [← hX15]
  try rw [hE15]
  clear hX15 hE15
  obtain ⟨q1, q2, _, _⟩ := hE.cells
  go_wp2_with fail
  refine (HZ2.out _).mono ?_
  rintro _ _ ⟨rfl, rfl⟩
  go_wp2_with fail
  refine (HQ2.out _ (by first | exact hb | exact hB0 ▸ hb)).mono ?_
  rintro _ wq17 ⟨rfl, hB⟩
  replace hb := hb.trans (hB.mono hb.size)
  replace hE := hE.below hB
  replace hF15 := hF15.below hB
  clear hB
  obtain ⟨E17, hE17⟩ : ∃ q, wq17.heap.size = q := ⟨_, rfl⟩
  obtain ⟨X17, hX17⟩ : ∃ V, V = wq17.alloc (.cells #[.string u1, .string v1] 59) := ⟨_, rfl⟩
  have hF17 : PairAt X17 E17 59 u1 v1 := by rw [hX17, ← hE17]; exact PairAt.made _ _ _ _
  replace hE := (hE.alloc (.cells #[.string u1, .string v1] 59))
  rw [← hX17] at hE
  replace hF15 := (hF15.alloc (.cells #[.string u1, .string v1] 59))
  rw [← hX17] at hF15
  replace hb : Below w.heap.size w X17 := by rw [hX17]; exact hb.alloc hb.size _
  clear q1 q2
  go_upto_region 14 with fail
  rw [← hX17]
  try rw [hE17]
  clear hX17 hE17
  obtain ⟨q1, q2, _, _⟩ := hE.cells
  go_wp2_with fail
  refine (HFI.out _ (by first | exact hb | exact hB0 ▸ hb)).mono ?_
  rintro _ wf ⟨rfl, hB⟩
  replace hb := hb.trans (hB.mono hb.size)
  replace hF15 := hF15.below hB
  replace hF17 := hF17.below hB
  clear hB q1 q2 hE
  obtain ⟨E19, hE19⟩ : ∃ q, wf.heap.size = q := ⟨_, rfl⟩
  obtain ⟨X19, hX19⟩ : ∃ V, V = wf.alloc (.cells #[.string cd, .int .i64 pi] 26) := ⟨_, rfl⟩
  have hF19 : TwoAt X19 E19 26 (.string cd) (.int .i64 pi) := by rw [hX19, ← hE19]; exact TwoAt.made _ _ _ _
  replace hF15 := hF15.alloc (.cells #[.string cd, .int .i64 pi] 26)
  replace hF17 := hF17.alloc (.cells #[.string cd, .int .i64 pi] 26)
  rw [← hX19] at hF15 hF17
  replace hb : Below w.heap.size w X19 := by rw [hX19]; exact hb.alloc hb.size _
  go_upto_region 15 with fail
  rw [← hX19]
  try rw [hE19]
  clear hX19 hE19
  go_wp2_with fail
  refine (HIX.out _).mono ?_
  rintro _ _ ⟨rfl, rfl⟩
  obtain ⟨a0, a1, _, _⟩ := hF15.cells
  obtain ⟨b0, b1, _, _⟩ := hF17.cells
  obtain ⟨c0, c1, _, _⟩ := hF19.cells
  go_wp2_with fail
  refine (HAW.out _ (HG.out.below (by first | exact hb | exact hB0 ▸ hb))).mono ?_
  rintro _ w2 ⟨rfl, hB⟩
  go_wp2_with fail
  go_ret
  have hbb := hb.trans (hB.mono hb.size)
  exact ⟨rfl, by first | exact hbb | exact hB0 ▸ hbb⟩
set_option maxRecDepth 100000 in
set_option maxHeartbeats 16000000 in
theorem mte_11b (xa : Option Addr) (n ca : Nat) (c : Nat → ByteArray) (p : Nat → Int) (x z s : ByteArray) (w : World) (hG : Ground w) (hx : Rt w xa n c p) (hn : n ≤ 9223372036854775807) (hg : greatTb n c = false) (hl : wideB x z = false) (hs : s.size ≤ 40) (ht : tabE n c p = 0) (tx : ByteArray) (hts : tx.size ≤ 1000) (hA : OnT 31 n c p x z (strE tx 0)) (hA2 : OnP 33 n c p tx (monE x z 0)) (cd aa : ByteArray) (i : Nat) (z2 T1 T2 u1 v1 : ByteArray) (pt : Int) (hD : ReadAt n c p s cd aa i z2 T1 T2 u1 v1 0 pt) (hpt : 0 ≤ pt) :
    Calls Tryz.prog 10 #[.slice xa n (n + ca), .agg #[.string x, .string z], .string s] w (ValP (.bool true) w) := by
  obtain ⟨W0, hW0⟩ : ∃ V, V = w.alloc (.cells #[.string x, .string z] 35) := ⟨_, rfl⟩
  obtain ⟨B0, hB0⟩ : ∃ q, w.heap.size = q := ⟨_, rfl⟩
  have hP0 : PairAt W0 B0 35 x z := by rw [hW0, ← hB0]; exact PairAt.made _ _ _ _
  have hb0 : Below w.heap.size w W0 := by rw [hW0]; exact (Below.refl _ _).alloc (Nat.le_refl _) _
  have HP := Lib.hid hP0
  have HB := Lib.hid hb0
  have HGT := Lib.hid (rGreatTab W0 xa n (n + ca) c p (hx.belowAt hb0 (Nat.le_refl _)) hn)
  have HAW := Lib.hid mawake
  have HG := Lib.hid hG
  have HLO := Lib.hid (fun V => rLongM x z V)
  unfold ValP at HAW ⊢
  have hgf := greatTb_false hg
  have hft : FitT n c := ⟨by omega, fun i hi => by have := hgf.2 i hi; omega⟩
  have hi : ¬ (40 : Int) < (s.size : Int) := by omega
  have HTB := Lib.hid (fun V (hB : Below w.heap.size w V) => pTab V xa n (n + ca) (by omega) c p (hx.belowAt hB (Nat.le_refl _)) hft)
  rw [ht] at HTB
  rw [hg] at HGT
  rw [hl] at HLO
  have HX := Lib.hid hx
  have hR := fun V (hB : Below w.heap.size w V) => hx.belowAt hB (Nat.le_refl _)
  have HR := Lib.hid hR
  have HTX := Lib.hid (fun V (hB : Below w.heap.size w V) => hA V xa ca (hG.below hB) (hR V hB))
  have HPX := Lib.hid (fun V (hB : Below w.heap.size w V) => hA2 V xa ca (hG.below hB) (hR V hB))
  unfold ValP strE at HTX
  unfold ValP monE at HPX
  have n1 := fun X Y W => money_guard .neq X Y x z x z W
  have n2 := money_nsame x z
  have _ := hts
  clear hA hA2 hts
  have hmax := hft.max
  have HPS := Lib.hid (fun V (hB : Below w.heap.size w V) => hD.par V xa ca (hG.below hB) (hR V hB))
  have HTY := Lib.hid (fun V (hB : Below w.heap.size w V) => hD.text V xa ca (hG.below hB) (hR V hB))
  have HFI := Lib.hid (fun V (hB : Below w.heap.size w V) => pFind V xa n (n + ca) c p cd (hR V hB) (by omega))
  rw [hD.find] at HFI
  have hii := idx_is hD.find
  have hcx : c i = cd := of_decide_eq_true hii.2.1
  have HQ1 := Lib.hid (fun V (hB : Below w.heap.size w V) => hD.f1 V (hG.below hB))
  have HQ2 := Lib.hid (fun V (hB : Below w.heap.size w V) => hD.f2 V (hG.below hB))
  have HZ1 := Lib.hid (fun V => Tryz.strings_TrimSuffix s (ByteArray.mk #[32] ++ cd) V (by omega))
  have HZ2 := Lib.hid (fun V => Tryz.strings_TrimSuffix z2 (ByteArray.mk #[32] ++ cd) V (by have := hD.zsz; omega))
  rw [show ByteArray.mk (Lib.trimSuffix s.data.toList (ByteArray.mk #[32] ++ cd).data.toList).toArray = T1 by have h := trim_money T1 cd; rw [← hD.s_eq] at h; exact h] at HZ1
  rw [show ByteArray.mk (Lib.trimSuffix z2.data.toList (ByteArray.mk #[32] ++ cd).data.toList).toArray = T2 by have h := trim_money T2 cd; rw [← hD.z_eq] at h; exact h] at HZ2
  have HIX := Lib.hid (fun V => Tryz.strings_IndexByte z2 46 V)
  rw [show Lib.indexByte z2.data.toList (46 : Int).toNat.toUInt8 = pt from hD.dot] at HIX
  unfold curV at HFI
  dsimp only at HFI
  rw [hcx] at HFI
  obtain ⟨pi, hpi⟩ : ∃ y, p i = y := ⟨_, rfl⟩
  have hplc := hD.plc
  rw [hpi] at HFI hplc
  have hcs := code_size hD.code
  have hb3 : 1 + cd.size ≤ 1000000 := by omega
  have hzs := hD.zsz
  unfold ValP strE at HTY
  unfold ValP monE at HPS
  unfold fraE at HQ1 HQ2
  have n3 := fun X Y W => frac_guards X Y u1 v1 u1 v1 W
  have n4 := frac_same u1 v1
  have hmax3 : ∀ W : World, (Builtin.max_ #[29, 29, 29] 29 #[.int .i64 0, .int .i64 0, .int .i64 0]).run Tryz.prog W = .ok (.int .i64 0) W := fun W => by simp [Builtin.max_, Builtin.max2]
  have hge := tabE_zero ht
  have hlo := hge.low i hii.1
  have hhi := hge.high i hii.1
  rw [hpi] at hlo hhi
  have hpl : (z2.size : Int) - 4 - pt - 1 = pi := by rcases hplc with h | h <;> omega
  obtain ⟨N1, hN1⟩ : ∃ N : Int, (z2.size : Int) - 4 = N := ⟨_, rfl⟩
  have hw1 : IntKind.i64.wrap ((z2.size : Int) - 4) = N1 := by rw [IntWalk.i64_in _ (by omega)]; exact hN1
  obtain ⟨N2, hN2⟩ : ∃ N : Int, N1 - pt = N := ⟨_, rfl⟩
  have hw2 : IntKind.i64.wrap (N1 - pt) = N2 := by rw [IntWalk.i64_in _ (by omega)]; exact hN2
  have hw3 : IntKind.i64.wrap (N2 - 1) = pi := by rw [IntWalk.i64_in _ (by omega)]; omega
  clear hD hii hcx hpi hplc hcs hzs hmax hge hlo hhi hpl hN1 hN2
  clear hG hx hn hP0 hb0 hg hl hs hgf hft ht hR
  go_enter Tryz.func10, Tryz.ntmps10
  go_upto_region 1 with fail
  rw [← hW0]
  try rw [hB0]
  clear hW0
  obtain ⟨q1, q2, _, _⟩ := HP.out.cells
  go_wp2_with fail
  refine HGT.out.mono ?_
  rintro _ _ ⟨rfl, rfl⟩
  have hb := HB.out
  have hP := HP.out
  go_wp2_with fail
  refine (HLO.out _).mono ?_
  rintro _ w3 ⟨rfl, hB⟩
  replace hb := hb.trans (hB.mono hb.size)
  replace hP := hP.below hB
  clear hB q1 q2
  go_wp2_with fail
  refine (HTB.out _ (by first | exact hb | exact hB0 ▸ hb)).mono ?_
  rintro _ w4 ⟨rfl, hB⟩
  replace hb := hb.trans (hB.mono hb.size)
  replace hP := hP.below hB
  clear hB
  obtain ⟨q1, q2, _, _⟩ := hP.cells
  go_wp2_with fail
  refine (HTX.out _ (by first | exact hb | exact hB0 ▸ hb)).mono ?_
  rintro _ w5 ⟨rfl, hB⟩
  replace hb := hb.trans (hB.mono hb.size)
  replace hP := hP.below hB
  clear hB q1 q2
  go_wp2_with fail
  refine (HPX.out _ (by first | exact hb | exact hB0 ▸ hb)).mono ?_
  rintro _ w6 ⟨rfl, hB⟩
  replace hb := hb.trans (hB.mono hb.size)
  replace hP := hP.below hB
  clear hB
  obtain ⟨E9, hE9⟩ : ∃ q, w6.heap.size = q := ⟨_, rfl⟩
  obtain ⟨X9, hX9⟩ : ∃ V, V = w6.alloc (.cells #[.string x, .string z] 35) := ⟨_, rfl⟩
  have hE : PairAt X9 E9 35 x z := by rw [hX9, ← hE9]; exact PairAt.made _ _ _ _
  replace hP : PairAt X9 B0 35 x z := by rw [hX9]; exact hP.alloc _
  replace hb : Below w.heap.size w X9 := by rw [hX9]; exact hb.alloc hb.size _
  go_upto_region 6 with fail
  rw [← hX9]
  try rw [hE9]
  clear hX9 hE9
  obtain ⟨q1, q2, _, _⟩ := hP.cells
  obtain ⟨q3, q4, _, _⟩ := hE.cells
  go_wp2_with fail
  clear q1 q2 q3 q4 hE
  refine (HPS.out _ (by first | exact hb | exact hB0 ▸ hb)).mono ?_
  rintro _ w7 ⟨rfl, hB⟩
  replace hb := hb.trans (hB.mono hb.size)
  clear hB
  obtain ⟨E11, hE11⟩ : ∃ q, w7.heap.size = q := ⟨_, rfl⟩
  obtain ⟨X11, hX11⟩ : ∃ V, V = w7.alloc (.cells #[.string cd, .string aa] 35) := ⟨_, rfl⟩
  have hE : PairAt X11 E11 35 cd aa := by rw [hX11, ← hE11]; exact PairAt.made _ _ _ _
  replace hb : Below w.heap.size w X11 := by rw [hX11]; exact hb.alloc hb.size _
  go_upto_region 9 with fail
  rw [← hX11]
  try rw [hE11]
  clear hX11 hE11
  obtain ⟨q1, q2, _, _⟩ := hE.cells
  go_wp2_with fail
  refine (HTY.out _ (by first | exact hb | exact hB0 ▸ hb)).mono ?_
  rintro _ w8 ⟨rfl, hB⟩
  replace hb := hb.trans (hB.mono hb.size)
  replace hE := hE.below hB
  clear hB q1 q2
  obtain ⟨q1, q2, _, _⟩ := hE.cells
  go_wp2_with fail
  refine (HZ1.out _).mono ?_
  rintro _ _ ⟨rfl, rfl⟩
  go_wp2_with fail
  refine (HQ1.out _ (by first | exact hb | exact hB0 ▸ hb)).mono ?_
  rintro _ wq15 ⟨rfl, hB⟩
  replace hb := hb.trans (hB.mono hb.size)
  replace hE := hE.below hB
  clear hB
  obtain ⟨E15, hE15⟩ : ∃ q, wq15.heap.size = q := ⟨_, rfl⟩
  obtain ⟨X15, hX15⟩ : ∃ V, V = wq15.alloc (.cells #[.string u1, .string v1] 59) := ⟨_, rfl⟩
  have hF15 : PairAt X15 E15 59 u1 v1 := by rw [hX15, ← hE15]; exact PairAt.made _ _ _ _
  replace hE := (hE.alloc (.cells #[.string u1, .string v1] 59))
  rw [← hX15] at hE
  replace hb : Below w.heap.size w X15 := by rw [hX15]; exact hb.alloc hb.size _
  clear q1 q2
  go_upto_region 13 with fail
  rw [← hX15]
  try rw [hE15]
  clear hX15 hE15
  obtain ⟨q1, q2, _, _⟩ := hE.cells
  go_wp2_with fail
  refine (HZ2.out _).mono ?_
  rintro _ _ ⟨rfl, rfl⟩
  go_wp2_with fail
  refine (HQ2.out _ (by first | exact hb | exact hB0 ▸ hb)).mono ?_
  rintro _ wq17 ⟨rfl, hB⟩
  replace hb := hb.trans (hB.mono hb.size)
  replace hE := hE.below hB
  replace hF15 := hF15.below hB
  clear hB
  obtain ⟨E17, hE17⟩ : ∃ q, wq17.heap.size = q := ⟨_, rfl⟩
  obtain ⟨X17, hX17⟩ : ∃ V, V = wq17.alloc (.cells #[.string u1, .string v1] 59) := ⟨_, rfl⟩
  have hF17 : PairAt X17 E17 59 u1 v1 := by rw [hX17, ← hE17]; exact PairAt.made _ _ _ _
  replace hE := (hE.alloc (.cells #[.string u1, .string v1] 59))
  rw [← hX17] at hE
  replace hF15 := (hF15.alloc (.cells #[.string u1, .string v1] 59))
  rw [← hX17] at hF15
  replace hb : Below w.heap.size w X17 := by rw [hX17]; exact hb.alloc hb.size _
  clear q1 q2
  go_upto_region 14 with fail
  rw [← hX17]
  try rw [hE17]
  clear hX17 hE17
  obtain ⟨q1, q2, _, _⟩ := hE.cells
  go_wp2_with fail
  refine (HFI.out _ (by first | exact hb | exact hB0 ▸ hb)).mono ?_
  rintro _ wf ⟨rfl, hB⟩
  replace hb := hb.trans (hB.mono hb.size)
  replace hF15 := hF15.below hB
  replace hF17 := hF17.below hB
  clear hB q1 q2 hE
  obtain ⟨E19, hE19⟩ : ∃ q, wf.heap.size = q := ⟨_, rfl⟩
  obtain ⟨X19, hX19⟩ : ∃ V, V = wf.alloc (.cells #[.string cd, .int .i64 pi] 26) := ⟨_, rfl⟩
  have hF19 : TwoAt X19 E19 26 (.string cd) (.int .i64 pi) := by rw [hX19, ← hE19]; exact TwoAt.made _ _ _ _
  replace hF15 := hF15.alloc (.cells #[.string cd, .int .i64 pi] 26)
  replace hF17 := hF17.alloc (.cells #[.string cd, .int .i64 pi] 26)
  rw [← hX19] at hF15 hF17
  replace hb : Below w.heap.size w X19 := by rw [hX19]; exact hb.alloc hb.size _
  go_upto_region 15 with fail
  rw [← hX19]
  try rw [hE19]
  clear hX19 hE19
  go_wp2_with fail
  refine (HIX.out _).mono ?_
  rintro _ _ ⟨rfl, rfl⟩
  obtain ⟨a0, a1, _, _⟩ := hF15.cells
  obtain ⟨b0, b1, _, _⟩ := hF17.cells
  obtain ⟨c0, c1, _, _⟩ := hF19.cells
  go_wp2_with fail
  refine (HAW.out _ (HG.out.below (by first | exact hb | exact hB0 ▸ hb))).mono ?_
  rintro _ w2 ⟨rfl, hB⟩
  go_wp2_with fail
  go_ret
  have hbb := hb.trans (hB.mono hb.size)
  exact ⟨rfl, by first | exact hbb | exact hB0 ▸ hbb⟩
theorem mte_any (xa : Option Addr) (n ca : Nat) (c : Nat → ByteArray) (p : Nat → Int) (x z s : ByteArray) (w : World) (hG : Ground w) (hx : Rt w xa n c p) (hn : n ≤ 9223372036854775807) (hca : n ≤ ca) :
    Calls Tryz.prog 10 #[.slice xa n ca, .agg #[.string x, .string z], .string s] w (ValP (.bool true) w) := by
  obtain ⟨ca, rfl⟩ : ∃ k, ca = n + k := ⟨ca - n, by omega⟩
  cases hg : greatTb n c with
  | true => exact mte_great xa n ca c p x z s w hG hx hn hg
  | false =>
    cases hl : wideB x z with
    | true => exact mte_long xa n ca c p x z s w hG hx hn hg hl
    | false =>
      by_cases hs : s.size ≤ 40
      · by_cases ht : tabE n c p = 0
        · have hgf := greatTb_false hg
          have hft : FitT n c := ⟨by omega, fun i hi => by have := hgf.2 i hi; omega⟩
          have hl2 := hl
          unfold wideB longA at hl2
          rw [Bool.or_eq_false_iff] at hl2
          have h2 := of_decide_eq_false hl2.1
          have h3 := of_decide_eq_false hl2.2
          have hdp : ∀ {cd aa : ByteArray} {i : Nat} {z2 T1 T2 u1 v1 : ByteArray} {pt : Int}, ReadAt n c p s cd aa i z2 T1 T2 u1 v1 0 pt → pt = -1 ∨ 0 ≤ pt := fun h => by rcases h.plc with g | g <;> omega
          rcases text_case hft ht (x := x) (z := z) (by omega) (by omega) with ⟨tx, e, he, hA⟩ | ⟨tx, hts, hA, hA2⟩
          · rcases parse_case hft ht hs with ⟨g, hg0, hB⟩ | ⟨cd, aa, i, z2, T1, T2, u1, v1, pt, hD⟩
            · exact mte_00 xa n ca c p x z s w hG hx hn hg hl hs ht tx e he hA g hg0 hB
            · rcases hdp hD with h | h
              · exact mte_01a xa n ca c p x z s w hG hx hn hg hl hs ht tx e he hA cd aa i z2 T1 T2 u1 v1 pt hD h
              · exact mte_01b xa n ca c p x z s w hG hx hn hg hl hs ht tx e he hA cd aa i z2 T1 T2 u1 v1 pt hD h
          · rcases parse_case hft ht hs with ⟨g, hg0, hB⟩ | ⟨cd, aa, i, z2, T1, T2, u1, v1, pt, hD⟩
            · exact mte_10 xa n ca c p x z s w hG hx hn hg hl hs ht tx hts hA hA2 g hg0 hB
            · rcases hdp hD with h | h
              · exact mte_11a xa n ca c p x z s w hG hx hn hg hl hs ht tx hts hA hA2 cd aa i z2 T1 T2 u1 v1 pt hD h
              · exact mte_11b xa n ca c p x z s w hG hx hn hg hl hs ht tx hts hA hA2 cd aa i z2 T1 T2 u1 v1 pt hD h
        · exact mte_tab xa n ca c p x z s w hG hx hn hg hl hs ht
      · exact mte_size xa n ca c p x z s w hG hx hn hg hl (by omega)

end Go.Proofs.YtahnkmkmoalbhaaGreatDoor
