/- The reference implementation of layer 3: mode, places, power, even, digits, divided: the walks. -/
import Derived.Test.YtlonbfddhfacmaaGreatDoorDE
import Derived.Test.YtlonbfddhfacmaaGreatDoorME
import Derived.Deep.DeepCutAuto
import Derived.Laws.NewBlocks
namespace Go.Proofs.YtlonbfddhfacmaaGreatDoor
open Go.RowKit Fra

def okM (n : Int) : Bool := decide (1 ≤ n ∧ n ≤ 6)
theorem okM_true {n : Int} (h1 : 1 ≤ n) (h2 : n ≤ 6) : okM n = true := decide_eq_true ⟨h1, h2⟩
theorem okM_false {n : Int} (h : n < 1 ∨ 6 < n) : okM n = false := decide_eq_false (fun k => by omega)
theorem kMode (n : Int) (w : World) :
    Calls Tryz.prog 51 #[.int .i64 n] w fun e w' => e = .returned (.bool (okM n)) ∧ w = w' := by
  by_cases h1 : 1 ≤ n
  · by_cases h2 : n ≤ 6
    · have HD := Lib.hid (okM_true h1 h2)
      go_enter Tryz.func51, Tryz.ntmps51
      go_wp2_with fail
      go_ret
      exact ⟨by rw [HD.out]; rfl, rfl⟩
    · have HD := Lib.hid (okM_false (n := n) (by omega))
      go_enter Tryz.func51, Tryz.ntmps51
      go_wp2_with fail
      go_ret
      exact ⟨by rw [HD.out]; rfl, rfl⟩
  · have HD := Lib.hid (okM_false (n := n) (by omega))
    go_enter Tryz.func51, Tryz.ntmps51
    go_wp2_with fail
    go_ret
    exact ⟨by rw [HD.out]; rfl, rfl⟩
theorem kPlaces (n : Int) (w : World) :
    Calls Tryz.prog 55 #[.int .i64 n] w fun e w' => e = .returned (.bool (okP n)) ∧ w = w' := by
  by_cases h1 : 0 ≤ n
  · by_cases h2 : n ≤ 12
    · have HD := Lib.hid (okP_true h1 h2)
      go_enter Tryz.func55, Tryz.ntmps55
      go_wp2_with fail
      go_ret
      exact ⟨by rw [HD.out]; rfl, rfl⟩
    · have HD := Lib.hid (okP_false (n := n) (by omega))
      go_enter Tryz.func55, Tryz.ntmps55
      go_wp2_with fail
      go_ret
      exact ⟨by rw [HD.out]; rfl, rfl⟩
  · have HD := Lib.hid (okP_false (n := n) (by omega))
    go_enter Tryz.func55, Tryz.ntmps55
    go_wp2_with fail
    go_ret
    exact ⟨by rw [HD.out]; rfl, rfl⟩

set_option maxHeartbeats 1000000 in
theorem kPower (n : Nat) (w : World) (hn : n ≤ 1000000) :
    Calls Tryz.prog 58 #[.int .i64 (n : Int)] w fun e w' => e = .returned (.string (cS ((10 : Int) ^ n))) ∧ w = w' := by
  go_enter Tryz.func58, Tryz.ntmps58
  go_wp2_with fail
  go_loopw [3, 4] (fun pv iv wr => ∃ (j : Nat) (r : ByteArray), j ≤ n ∧ r.data.toList = 49 :: List.replicate j 48 ∧ pv = .string r ∧ iv = .int .i64 (j : Int) ∧ w = wr) (fun _ iv _ => n - (intOf iv).toNat)
  case atStart => exact ⟨0, ⟨#[49]⟩, Nat.zero_le _, rfl, rfl, rfl, rfl⟩
  case round =>
    obtain ⟨j, r, hj, hr, rfl, rfl, rfl⟩ := hrel
    have hs : r.size = j + 1 := by rw [← size_toList, hr]; simp
    have hb : ¬ 9223372036854775807 < r.size + 1 := by omega
    have HR := Lib.hid hr
    have HS := Lib.hid hs
    clear hr hs
    by_cases hlt : j < n
    · go_wp2_with fail
      go_roundw
      case rel => exact ⟨j + 1, r ++ ⟨#[48]⟩, by omega, by rw [ByteArray.data_append, Array.toList_append, HR.out, List.replicate_succ']; rfl, rfl, by simp, trivial⟩
      case measure => simp [intOf]; omega
    · obtain rfl : j = n := by omega
      have HE := Lib.hid (show r = cS ((10 : Int) ^ j) by rw [cS_pow]; apply ByteArray.ext; apply Array.toList_inj.1; exact HR.out)
      go_wp2_with fail
      go_ret
      exact ⟨by rw [← HE.out]; rfl, rfl⟩

/-! ### even -/
theorem decDigits_last (n : Nat) : ∃ l, Lib.decDigits n = l ++ [UInt8.ofNat (48 + n % 10)] := by
  by_cases h : n < 10
  · exact ⟨[], by rw [Lib.decDigits_one h, Nat.mod_eq_of_lt h]; rfl⟩
  · exact ⟨Lib.decDigits (n / 10), by conv => lhs; rw [Lib.decDigits, dif_neg h]⟩
theorem cS_last {z : Int} (h : z ≠ 0) : ∃ l : List UInt8, (cS z).data.toList = l ++ [UInt8.ofNat (48 + z.natAbs % 10)] := by
  obtain ⟨l, hl⟩ := decDigits_last z.natAbs
  have e : Num.digs z.natAbs = Lib.decDigits z.natAbs := by unfold Num.digs; rw [if_neg (by omega)]
  unfold cS Num.canon
  by_cases hn : z < 0
  · rw [if_pos hn, e, hl]; exact ⟨45 :: l, rfl⟩
  · rw [if_neg hn, e, hl]; exact ⟨l, rfl⟩
set_option maxHeartbeats 1000000 in
theorem kEven {s : ByteArray} {z : Int} (w : World) (hs : s.size ≤ 4294967296) (hz : vS s = z) :
    Calls Tryz.prog 99 #[.string s] w fun e w' => e = .returned (.bool (decide (z % 2 = 0))) ∧ w = w' := by
  have HC := Lib.hid (show ∀ W, Calls Tryz.prog 66 #[.string s] W fun e w' => e = .returned (.string (cS z)) ∧ W = w' from fun W => by rw [← hz]; exact rCanonical_any s W hs)
  by_cases h0 : z = 0
  · have HZ := Lib.hid (show cS z = ⟨#[]⟩ by rw [h0, cS_zero])
    have HD := Lib.hid (show decide (z % 2 = 0) = true from decide_eq_true (by omega))
    clear h0 hz
    go_enter Tryz.func99, Tryz.ntmps99
    go_wp2_with fail
    refine (HC.out w).mono ?_
    rintro _ _ ⟨rfl, rfl⟩
    rw [HZ.out]
    go_wp2_with fail
    go_ret
    exact ⟨by rw [HD.out]; rfl, rfl⟩
  · obtain ⟨l, hl⟩ := cS_last h0
    have hsz : (cS z).size ≤ s.size + 1 := cS_size (by rw [← hz]; exact vS_lt s)
    have hne : ((cS z).toList.isEmpty) = false := by rw [eq_nil]; exact decide_eq_false h0
    obtain ⟨t, ht⟩ : ∃ t, t = cS z := ⟨_, rfl⟩
    have HT := Lib.hid ht
    rw [← ht] at hl hne hsz
    have hls : t.size = l.length + 1 := by rw [← size_toList, hl]; simp
    have hlt : l.length < t.size := by omega
    have hby : ((t[l.length]'hlt).toNat : Int) = 48 + (z.natAbs % 10 : Nat) := by
      have h1 := byte_at t l.length hlt (by rw [size_toList]; exact hlt)
      rw [← h1]
      have h2 : t.data.toList[l.length]'(by rw [size_toList]; exact hlt) = UInt8.ofNat (48 + z.natAbs % 10) := by
        simp only [hl]
        rw [List.getElem_append_right (Nat.le_refl _)]
        simp
      rw [h2, Num.ofNat_dig _ (Nat.mod_lt _ (by decide))]
      omega
    obtain ⟨d, hd⟩ : ∃ d : Int, d = (z.natAbs % 10 : Nat) := ⟨_, rfl⟩
    rw [← hd] at hby
    have hd0 : 0 ≤ d := by omega
    have hd9 : d ≤ 9 := by have := Nat.mod_lt z.natAbs (show 0 < 10 by decide); omega
    have hw1 : IntKind.i64.wrap ((t.size : Int) - 1) = (l.length : Int) := by rw [IntWalk.i64_in _ (by omega)]; omega
    have hl0 : (0 : Int) ≤ (l.length : Int) := by omega
    have hl1 : (l.length : Int) < t.size := by omega
    have HP := Lib.hid (show d % 2 = z % 2 by omega)
    have HH := Lib.hid hby
    have HW := Lib.hid (show IntKind.u8.wrap (48 + d - 48) = d by rw [show 48 + d - 48 = d by omega]; exact IntWalk.u8_in _ (by omega))
    have HX := Lib.hid hls
    clear h0 hz ht hl hd hls hby
    go_enter Tryz.func99, Tryz.ntmps99
    go_wp2_with fail
    refine (HC.out w).mono ?_
    rintro _ _ ⟨rfl, rfl⟩
    rw [← HT.out]
    have hby := HH.out
    have hw8 := HW.out
    go_wp2_with fail
    go_ret
    exact ⟨by show Ending.returned (.bool (d % 2 == 0)) = _; rw [HP.out]; rfl, rfl⟩

/-! ### digits -/
def digsB (l : List UInt8) : Bool := l.all Num.isDig && !l.isEmpty
set_option maxHeartbeats 1000000 in
theorem kDigits (s : ByteArray) (w : World) (hs : s.size ≤ 4294967296) :
    Calls Tryz.prog 65 #[.string s] w fun e w' => e = .returned (.bool (digsB s.data.toList)) ∧ w = w' := by
  go_enter Tryz.func65, Tryz.ntmps65
  go_wp2_with fail
  go_loop [3] (fun i => ∃ k : Nat, k ≤ s.size ∧ i = .int .i64 k ∧ (s.data.toList.take k).all Num.isDig = true) (fun i => s.size - (intOf i).toNat)
  case atStart => exact ⟨0, Nat.zero_le _, rfl, rfl⟩
  case round =>
    obtain ⟨k, hk, rfl, ha⟩ := hrel
    have HA := Lib.hid ha
    clear ha
    by_cases hlt : k < s.size
    · have hlt' : k < s.data.toList.length := by rw [size_toList]; exact hlt
      have HB := Lib.hid (byte_at s k hlt hlt')
      by_cases b1 : ((s[k]'hlt).toNat : Int) < 48
      · have H := Lib.hid (show digsB s.data.toList = false by unfold digsB; rw [not_all_at hlt' (.inl (by rw [HB.out]; exact b1))]; rfl)
        clear HB hlt'
        go_wp2
        go_ret
        exact ⟨by rw [H.out]; rfl, rfl⟩
      · by_cases b2 : 57 < ((s[k]'hlt).toNat : Int)
        · have H := Lib.hid (show digsB s.data.toList = false by unfold digsB; rw [not_all_at hlt' (.inr (by rw [HB.out]; exact b2))]; rfl)
          clear HB hlt'
          go_wp2
          go_ret
          exact ⟨by rw [H.out]; rfl, rfl⟩
        · have H := Lib.hid (all_take_succ HA.out hlt' (by rw [HB.out]; exact b1) (by rw [HB.out]; exact b2))
          clear HB hlt'
          go_wp2
          go_round
          case rel => exact ⟨k + 1, by omega, by go_num, H.out⟩
          case measure => simp [intOf]; omega
    · have ha : s.data.toList.all Num.isDig = true := by have := HA.out; rw [List.take_of_length_le (by rw [size_toList]; omega)] at this; exact this
      by_cases h0 : (0 : Int) < s.size
      · have H := Lib.hid (show digsB s.data.toList = true by
          unfold digsB
          rw [ha]
          have : s.data.toList ≠ [] := by intro e; rw [← size_toList, e] at h0; simp at h0
          simpa using this)
        clear ha
        go_wp2
        go_ret
        exact ⟨by rw [H.out]; first | rfl | (simp; done) | (show Ending.returned (.bool (decide (0 < s.size))) = _; rw [decide_eq_true (by omega)]) | (show Ending.returned (.bool (decide (0 < s.size))) = _; rw [decide_eq_false (by omega)]), rfl⟩
      · have H := Lib.hid (show digsB s.data.toList = false by
          unfold digsB
          have : s.data.toList = [] := List.eq_nil_of_length_eq_zero (by rw [size_toList]; omega)
          rw [this]; rfl)
        clear ha
        go_wp2
        go_ret
        exact ⟨by rw [H.out]; first | rfl | (simp; done) | (show Ending.returned (.bool (decide (0 < s.size))) = _; rw [decide_eq_true (by omega)]) | (show Ending.returned (.bool (decide (0 < s.size))) = _; rw [decide_eq_false (by omega)]), rfl⟩

/-! ### divided -/
set_option maxRecDepth 100000 in
set_option maxHeartbeats 2000000 in
theorem kDivided (N f : Nat) (w : World) (hf : 2 ≤ f) (hf9 : f ≤ 9) (hN : 0 < N) (c : Nat) (hc : c ≤ 900) (hcN : N < 10 ^ c) :
    Calls Tryz.prog 69 #[.string (cS (N : Int)), .string (cS (f : Int))] w (RemPost w f N) := by
  have hfew := Num.tm_few hf hN hcN
  obtain ⟨sf, hsf⟩ : ∃ sf, sf = cS (f : Int) := ⟨_, rfl⟩
  have HFS := Lib.hid (show sf.size ≤ 1000 by rw [hsf]; have := cS_size (z := (f : Int)) (k := 1) (by omega); omega)
  have HFW := Lib.hid hfew
  have HCN := Lib.hid hcN
  have HFV := Lib.hid (show vS sf = (f : Int) by rw [hsf, vS_cS])
  have H0 := Lib.hid (show vS sf ≠ 0 by rw [hsf, vS_cS]; omega)
  rw [← hsf]
  clear hfew hcN hsf
  go_enter Tryz.func69, Tryz.ntmps69
  go_wp2_with fail
  go_loopw [0, 6] (fun av nv wr => ∃ (M n : Nat), 0 < M ∧ M ≤ N ∧ Num.tm f N = (n + (Num.tm f M).1, (Num.tm f M).2) ∧ av = .string (cS (M : Int)) ∧ nv = .int .i64 (n : Int) ∧ Below w.heap.size w wr) (fun av _ _ => match av with | .string s => (vS s).toNat | _ => 0)
  case atStart => exact ⟨N, 0, hN, Nat.le_refl _, by simp, rfl, rfl, Below.refl _ _⟩
  case round =>
    obtain ⟨M, n, hM0, hMN, htm, rfl, rfl, hB⟩ := hrel
    have HTM := Lib.hid htm
    have hn : n < 4 * 900 := by have h1 := HFW.out; rw [HTM.out] at h1; simp only at h1; omega
    have HMS := Lib.hid (show (cS (M : Int)).size ≤ 1000 by have := cS_size (z := (M : Int)) (k := c) (by have := HCN.out; omega); omega)
    obtain ⟨qs, hqs⟩ : ∃ qs, qs = cS ((M / f : Nat) : Int) := ⟨_, rfl⟩
    obtain ⟨rs, hrs⟩ : ∃ rs, rs = cS ((M % f : Nat) : Int) := ⟨_, rfl⟩
    have HQS := Lib.hid hqs
    have HD := Lib.hid (show ∀ W, Calls Tryz.prog 115 #[.string (cS (M : Int)), .string sf] W fun e w' => e = .returned (.tuple #[.string qs, .string rs, .int .i64 0]) ∧ Below W.heap.size W w' from fun W => by
      have h := rDiv_any (cS (M : Int)) sf W HMS.out HFS.out H0.out
      unfold DivPost at h
      rw [vS_cS, HFV.out, nat_fdiv, nat_fmod, ← hqs, ← hrs] at h
      exact h)
    have HRS := Lib.hid (show rs.size ≤ 4294967296 by rw [hrs]; have := cS_size (z := ((M % f : Nat) : Int)) (k := 1) (by have := Nat.mod_lt M (show 0 < f by omega); omega); omega)
    have HRV := Lib.hid (show vS rs = ((M % f : Nat) : Int) by rw [hrs, vS_cS])
    obtain ⟨sm, hsm⟩ : ∃ sm, sm = cS (M : Int) := ⟨_, rfl⟩
    rw [← hsm] at HD
    rw [← hsm]
    have HSM := Lib.hid hsm
    clear htm hqs hrs hsm
    obtain ⟨c3, hc3⟩ : ∃ c3, cmp3 ((M % f : Nat) : Int) 0 = c3 := ⟨_, rfl⟩
    have HC := Lib.hid (show ∀ W, Calls Tryz.prog 63 #[.string rs, .string ⟨#[]⟩] W fun e w' => e = .returned (.int .i64 c3) ∧ W = w' from fun W => qCmp W HRS.out (by decide) HRV.out vS_nil hc3)
    by_cases h0 : M % f = 0
    · have hcc : c3 = 0 := by rw [← hc3, h0]; rfl
      have HST := Lib.hid (Num.tm_step hf hM0 h0)
      have HQ0 := Lib.hid (show 0 < M / f ∧ M / f < M from ⟨Nat.div_pos (Nat.le_of_dvd hM0 (Nat.dvd_of_mod_eq_zero h0)) (by omega), Nat.div_lt_self hM0 (by omega)⟩)
      have hw1 : IntKind.i64.wrap ((n : Int) + 1) = (n : Int) + 1 := IntWalk.i64_in _ (by omega)
      subst hcc
      clear hc3 h0
      go_wp2_with fail
      refine (HD.out wr).mono ?_
      rintro _ w1 ⟨rfl, hB1⟩
      replace hB := hB.trans (hB1.mono hB.size)
      clear hB1
      go_wp2_with fail
      refine (HC.out w1).mono ?_
      rintro _ _ ⟨rfl, rfl⟩
      go_wp2_with fail
      go_roundw
      case rel =>
        refine ⟨M / f, n + 1, HQ0.out.1, by have := HQ0.out.2; omega, ?_, by rw [HQS.out], by simp, hB⟩
        rw [HTM.out, HST.out]
        simp only
        rw [show n + ((Num.tm f (M / f)).1 + 1) = n + 1 + (Num.tm f (M / f)).1 by omega]
      case measure =>
        have h1 := HQ0.out.2
        simp only [HQS.out, HSM.out, vS_cS]
        omega
    · have hcc : (c3 == 0) = false := by
        have : c3 ≠ 0 := by rw [← hc3]; intro e; have := (cmp3_zero _ _).1 e; omega
        simpa using this
      have HST := Lib.hid (Num.tm_none hf hM0 h0)
      clear hc3 h0
      go_wp2_with fail
      refine (HD.out wr).mono ?_
      rintro _ w1 ⟨rfl, hB1⟩
      replace hB := hB.trans (hB1.mono hB.size)
      clear hB1
      go_wp2_with fail
      refine (HC.out w1).mono ?_
      rintro _ _ ⟨rfl, rfl⟩
      go_wp2_with fail
      go_ret2
      exact ⟨by rw [HTM.out, HST.out, ← HSM.out]; simp, hB⟩

end Go.Proofs.YtlonbfddhfacmaaGreatDoor

/- The reference implementation of layer 3: TextOf, Text: the walks. -/
namespace Go.Proofs.YtlonbfddhfacmaaGreatDoor
open Go.RowKit Fra

/-- what TextOf has put together when its digits are long enough -/
structure PadAt (z : Int) (n : Nat) (r A G : ByteArray) (L : Nat) : Prop where
  size : r.size = L + n
  pos : 0 < L
  eA : r.extract 0 L = A
  eG : r.extract L r.size = G
  AL : A.data.toList = Lib.decDigits (z.natAbs / 10 ^ n)
  GL : G.data.toList = Num.fixd n z.natAbs
theorem PadAt.of {z : Int} {n j : Nat} {r : ByteArray} (hr : r.data.toList = List.replicate j 48 ++ Num.digs z.natAbs) (hj : j = 0 ∨ r.size ≤ n + 1) (hx : n + 1 ≤ r.size) : ∃ A G L, PadAt z n r A G L := by
  have hs : r.size = j + (Num.digs z.natAbs).length := by rw [← size_toList, hr]; simp
  have hj2 : j = n + 1 - (Num.digs z.natAbs).length := by omega
  have hl : r.data.toList = Lib.decDigits (z.natAbs / 10 ^ n) ++ Num.fixd n z.natAbs := by rw [← Num.pad_split, hr, hj2]
  have h1 := Num.at_point z.natAbs n
  rw [← hl, size_toList] at h1
  obtain ⟨L, hL⟩ : ∃ L, L = (Lib.decDigits (z.natAbs / 10 ^ n)).length := ⟨_, rfl⟩
  refine ⟨_, _, L, by omega, by rw [hL]; exact List.length_pos_iff.mpr (Num.decDigits_ne _), rfl, rfl, ?_, ?_⟩
  · rw [ByteArray.data_extract, Array.toList_extract, List.extract_eq_take_drop, hl, hL]
    simp
  · rw [ByteArray.data_extract, Array.toList_extract, List.extract_eq_take_drop, hl, show r.size = L + n by omega, hL]
    simp
    rw [List.take_of_length_le (by rw [Num.fixd_length]; exact Nat.le_refl _)]
theorem text_list {z : Int} {n : Nat} {r A G : ByteArray} {L : Nat} (h : PadAt z n r A G L) (hn : n ≠ 0) : (if z < 0 then [45] else []) ++ (A.data.toList ++ 46 :: G.data.toList) = (txt z n).data.toList := by
  rw [txt_list, Num.decT_list, if_neg hn, h.AL, h.GL]
theorem text_list0 {z : Int} {r A G : ByteArray} {L : Nat} (h : PadAt z 0 r A G L) : (if z < 0 then [45] else []) ++ r.data.toList = (txt z 0).data.toList := by
  rw [txt_list, Num.decT_list, if_pos rfl, ← h.AL, ← h.eA]
  have e : L = r.size := by have := h.size; omega
  rw [e]
  simp
theorem digs_cap {z : Int} {k : Nat} (h : Cap k z) : (Num.digs z.natAbs).length ≤ k + 1 := by
  unfold Num.digs
  split
  · simp
  · exact digits_len h

set_option maxRecDepth 100000 in
set_option maxHeartbeats 4000000 in
theorem kTextOf_p {s : ByteArray} {z : Int} (n : Nat) (w : World) (hs : s.size ≤ 1000) (hz : vS s = z) (hn : n ≤ 1000) (hsg : ¬ z < 0) :
    Calls Tryz.prog 59 #[.string s, .int .i64 (n : Int)] w fun e w' => e = .returned (.string (txt z n)) ∧ Below w.heap.size w w' := by
  have hdl := digs_cap (Cap.of hs hz)
  have HC := Lib.hid (show ∀ W, Calls Tryz.prog 66 #[.string s] W fun e w' => e = .returned (.string (cS z)) ∧ W = w' from fun W => by rw [← hz]; exact rCanonical_any s W (by omega))
  have hnw : IntKind.i64.wrap ((n : Int) + 1) = (n : Int) + 1 := IntWalk.i64_in _ (by omega)
  obtain ⟨D, hD⟩ : ∃ D, D = cS z := ⟨_, rfl⟩
  have hDl : D.data.toList = Num.digs z.natAbs := by rw [hD]; unfold cS Num.canon; rw [if_neg hsg]
  have HT := Lib.hid hD
  have HDL := Lib.hid hDl
  have HSG := Lib.hid hsg
  by_cases hz0 : z = 0
  · have hDn : D = ⟨#[]⟩ := by rw [hD, hz0, cS_zero]
    clear hsg hs hz hD hDl hz0
    go_enter Tryz.func59, Tryz.ntmps59
    go_wp2_with fail
    refine (HC.out w).mono ?_
    rintro _ _ ⟨rfl, rfl⟩
    rw [← HT.out]
    subst hDn
    go_wp2_with fail
    obtain ⟨V, hV⟩ : ∃ V, V = w := ⟨_, rfl⟩
    have hBV : Below w.heap.size w V := by rw [hV]; exact Below.refl _ _
    rw [← hV]
    clear hV
    go_loopw [5] (fun sv wr => ∃ (j : Nat) (r : ByteArray), r.data.toList = List.replicate j 48 ++ Num.digs z.natAbs ∧ Hid (j = 0 ∨ r.size ≤ n + 1) ∧ j ≤ n + 1 ∧ sv = .string r ∧ V = wr) (fun sv _ => match sv with | .string r => n + 1 - r.size | _ => 0)
    case atStart => exact ⟨0, ⟨#[]⟩, by rw [HDL.out]; rfl, Or.inl rfl, by omega, rfl, rfl⟩
    case round =>
      obtain ⟨j, r, hr, hj, hjn, rfl, rfl⟩ := hrel
      have hrs : r.size = j + (Num.digs z.natAbs).length := by rw [← size_toList, hr]; simp
      have hrl : r.size ≤ 5000 := by omega
      have HR := Lib.hid hr
      have HRS := Lib.hid hrs
      clear hr hrs
      by_cases hlt : (r.size : Int) < (n : Int) + 1
      · have hb : ¬ 9223372036854775807 < 1 + r.size := by omega
        go_wp2_with fail
        go_roundw
        case rel =>
          refine ⟨j + 1, ⟨#[48]⟩ ++ r, ?_, ?_, ?_, rfl, trivial⟩
          · rw [ByteArray.data_append, Array.toList_append, HR.out, List.replicate_succ]; rfl
          · right; rw [ByteArray.size_append]; show 1 + r.size ≤ n + 1; omega
          · have := HRS.out; omega
        case measure =>
          show n + 1 - (ByteArray.mk #[48] ++ r).size < n + 1 - r.size
          rw [ByteArray.size_append]
          show n + 1 - (1 + r.size) < _
          omega
      · obtain ⟨A, G, L, hP⟩ := PadAt.of HR.out hj.out (by omega)
        have HP := Lib.hid hP
        clear hj hjn
        by_cases hn0 : n = 0
        · subst hn0
          have HE := Lib.hid (text_list0 hP)
          clear hP
          have hb2 : ¬ 9223372036854775807 < 0 + r.size := by omega
          go_wp2_with fail
          go_ret
          refine ⟨?_, hBV⟩
          refine congrArg (fun b => Ending.returned (.string b)) (ByteArray.ext (Array.toList_inj.1 ?_))
          rw [← HE.out, if_neg (by have := HSG.out; omega)]
          simp
        · have HE := Lib.hid (text_list hP hn0)
          have hsz := hP.size
          have hLp := hP.pos
          have hAs : A.size = L := by rw [← hP.eA, ByteArray.size_extract]; omega
          have hGs : G.size = n := by rw [← hP.eG, ByteArray.size_extract]; omega
          have hpt : IntKind.i64.wrap ((r.size : Int) - n) = (L : Int) := by rw [IntWalk.i64_in _ (by omega)]; omega
          have hlx : L ≤ r.size := by omega
          have hn1 : ((n : Int) == 0) = false := by simp; omega
          have eA := hP.eA
          have eG := hP.eG
          have hb2 : ¬ 9223372036854775807 < 0 + A.size := by omega
          have hb3 : ¬ 9223372036854775807 < 0 + A.size + 1 := by omega
          have hb4 : ¬ 9223372036854775807 < 0 + A.size + 1 + G.size := by omega
          have HSZ := Lib.hid hsz
          clear hP hsz hn0 hLp
          go_wp2_with fail
          go_region
          all_goals go_wp2_with fail
          all_goals go_ret
          all_goals refine ⟨?_, (by first | exact hBV | exact below_drewN hBV _ | exact below_drewN hBV 1)⟩
          all_goals refine congrArg (fun b => Ending.returned (.string b)) (ByteArray.ext (Array.toList_inj.1 ?_))
          all_goals rw [← HE.out, if_neg (by have := HSG.out; omega)]
          all_goals simp
  · have hts : D.size = (Num.digs z.natAbs).length := by rw [← size_toList, hDl]
    have hdn : Num.digs z.natAbs ≠ [] := by intro e; have := Num.digs_nil.mp e; omega
    have h0 : 0 < D.size := by rw [hts]; exact List.length_pos_iff.mpr hdn
    have hne : (D.toList.isEmpty) = false := by rw [hD, eq_nil]; exact decide_eq_false hz0
    have hb0 : (((D[0]'h0).toNat : Int) == 45) = false := by
      rw [← byte_at D 0 h0 (by rw [size_toList]; exact h0)]
      have h1 : Num.isDig (D.data.toList[0]'(by rw [size_toList]; exact h0)) = true := by
        have h2 := List.all_eq_true.mp (Num.Plain.digs z.natAbs).1 (D.data.toList[0]'(by rw [size_toList]; exact h0)) (by simp only [hDl]; exact List.getElem_mem _)
        exact h2
      have h3 := (Num.isDig_iff _).mp h1
      simp only [beq_eq_false_iff_ne, ne_eq]
      omega
    clear hsg hs hz hD hDl hz0 hts hdn
    go_enter Tryz.func59, Tryz.ntmps59
    go_wp2_with fail
    refine (HC.out w).mono ?_
    rintro _ _ ⟨rfl, rfl⟩
    rw [← HT.out]
    go_wp2_with fail
    obtain ⟨V, hV⟩ : ∃ V, V = w := ⟨_, rfl⟩
    have hBV : Below w.heap.size w V := by rw [hV]; exact Below.refl _ _
    rw [← hV]
    clear hV
    go_loopw [5] (fun sv wr => ∃ (j : Nat) (r : ByteArray), r.data.toList = List.replicate j 48 ++ Num.digs z.natAbs ∧ Hid (j = 0 ∨ r.size ≤ n + 1) ∧ j ≤ n + 1 ∧ sv = .string r ∧ V = wr) (fun sv _ => match sv with | .string r => n + 1 - r.size | _ => 0)
    case atStart => exact ⟨0, D, by rw [HDL.out]; rfl, Or.inl rfl, by omega, rfl, rfl⟩
    case round =>
      obtain ⟨j, r, hr, hj, hjn, rfl, rfl⟩ := hrel
      have hrs : r.size = j + (Num.digs z.natAbs).length := by rw [← size_toList, hr]; simp
      have hrl : r.size ≤ 5000 := by omega
      have HR := Lib.hid hr
      have HRS := Lib.hid hrs
      clear hr hrs
      by_cases hlt : (r.size : Int) < (n : Int) + 1
      · have hb : ¬ 9223372036854775807 < 1 + r.size := by omega
        go_wp2_with fail
        go_roundw
        case rel =>
          refine ⟨j + 1, ⟨#[48]⟩ ++ r, ?_, ?_, ?_, rfl, trivial⟩
          · rw [ByteArray.data_append, Array.toList_append, HR.out, List.replicate_succ]; rfl
          · right; rw [ByteArray.size_append]; show 1 + r.size ≤ n + 1; omega
          · have := HRS.out; omega
        case measure =>
          show n + 1 - (ByteArray.mk #[48] ++ r).size < n + 1 - r.size
          rw [ByteArray.size_append]
          show n + 1 - (1 + r.size) < _
          omega
      · obtain ⟨A, G, L, hP⟩ := PadAt.of HR.out hj.out (by omega)
        have HP := Lib.hid hP
        clear hj hjn
        by_cases hn0 : n = 0
        · subst hn0
          have HE := Lib.hid (text_list0 hP)
          clear hP
          have hb2 : ¬ 9223372036854775807 < 0 + r.size := by omega
          go_wp2_with fail
          go_ret
          refine ⟨?_, hBV⟩
          refine congrArg (fun b => Ending.returned (.string b)) (ByteArray.ext (Array.toList_inj.1 ?_))
          rw [← HE.out, if_neg (by have := HSG.out; omega)]
          simp
        · have HE := Lib.hid (text_list hP hn0)
          have hsz := hP.size
          have hLp := hP.pos
          have hAs : A.size = L := by rw [← hP.eA, ByteArray.size_extract]; omega
          have hGs : G.size = n := by rw [← hP.eG, ByteArray.size_extract]; omega
          have hpt : IntKind.i64.wrap ((r.size : Int) - n) = (L : Int) := by rw [IntWalk.i64_in _ (by omega)]; omega
          have hlx : L ≤ r.size := by omega
          have hn1 : ((n : Int) == 0) = false := by simp; omega
          have eA := hP.eA
          have eG := hP.eG
          have hb2 : ¬ 9223372036854775807 < 0 + A.size := by omega
          have hb3 : ¬ 9223372036854775807 < 0 + A.size + 1 := by omega
          have hb4 : ¬ 9223372036854775807 < 0 + A.size + 1 + G.size := by omega
          have HSZ := Lib.hid hsz
          clear hP hsz hn0 hLp
          go_wp2_with fail
          go_region
          all_goals go_wp2_with fail
          all_goals go_ret
          all_goals refine ⟨?_, (by first | exact hBV | exact below_drewN hBV _ | exact below_drewN hBV 1)⟩
          all_goals refine congrArg (fun b => Ending.returned (.string b)) (ByteArray.ext (Array.toList_inj.1 ?_))
          all_goals rw [← HE.out, if_neg (by have := HSG.out; omega)]
          all_goals simp

set_option maxRecDepth 100000 in
set_option maxHeartbeats 4000000 in
theorem kTextOf_n {s : ByteArray} {z : Int} (n : Nat) (w : World) (hs : s.size ≤ 1000) (hz : vS s = z) (hn : n ≤ 1000) (hsg : z < 0) :
    Calls Tryz.prog 59 #[.string s, .int .i64 (n : Int)] w fun e w' => e = .returned (.string (txt z n)) ∧ Below w.heap.size w w' := by
  have hdl := digs_cap (Cap.of hs hz)
  have HC := Lib.hid (show ∀ W, Calls Tryz.prog 66 #[.string s] W fun e w' => e = .returned (.string (cS z)) ∧ W = w' from fun W => by rw [← hz]; exact rCanonical_any s W (by omega))
  have hnw : IntKind.i64.wrap ((n : Int) + 1) = (n : Int) + 1 := IntWalk.i64_in _ (by omega)
  obtain ⟨D, hD⟩ : ∃ D, D = ByteArray.mk (Num.digs z.natAbs).toArray := ⟨_, rfl⟩
  obtain ⟨t, ht⟩ : ∃ t, t = cS z := ⟨_, rfl⟩
  have htl : t.data.toList = 45 :: Num.digs z.natAbs := by rw [ht]; unfold cS Num.canon; rw [if_pos hsg]
  have hts : t.size = (Num.digs z.natAbs).length + 1 := by rw [← size_toList, htl]; rfl
  have h0 : 0 < t.size := by omega
  have hne : (t.toList.isEmpty) = false := by rw [ht, eq_nil]; exact decide_eq_false (by omega)
  have hb0 : ((t[0]'h0).toNat : Int) = 45 := by
    rw [← byte_at t 0 h0 (by rw [size_toList]; exact h0)]
    simp only [htl]
    rfl
  have hx : t.extract 1 t.size = D := by
    apply ByteArray.ext
    apply Array.toList_inj.1
    rw [ByteArray.data_extract, Array.toList_extract, List.extract_eq_take_drop, htl, hD, hts]
    simp
  have hDl : D.data.toList = Num.digs z.natAbs := by rw [hD]
  have h1 : (1 : Int) ≤ t.size := by omega
  have HT := Lib.hid ht
  have HX := Lib.hid hx
  have HDL := Lib.hid hDl
  clear ht htl hts hx hDl hD
  have HSG := Lib.hid hsg
  clear hsg hs hz
  go_enter Tryz.func59, Tryz.ntmps59
  go_wp2_with fail
  refine (HC.out w).mono ?_
  rintro _ _ ⟨rfl, rfl⟩
  rw [← HT.out]
  go_wp2_with fail
  have hx := HX.out
  go_region
  clear hx

  obtain ⟨V, hV⟩ : ∃ V, V = w.drew := ⟨_, rfl⟩
  have hBV : Below w.heap.size w V := by rw [hV]; exact below_drewN (Below.refl _ _) 1
  rw [← hV]
  clear hV
  go_wp2_with fail
  go_loopw [5] (fun sv wr => ∃ (j : Nat) (r : ByteArray), r.data.toList = List.replicate j 48 ++ Num.digs z.natAbs ∧ Hid (j = 0 ∨ r.size ≤ n + 1) ∧ j ≤ n + 1 ∧ sv = .string r ∧ V = wr) (fun sv _ => match sv with | .string r => n + 1 - r.size | _ => 0)
  case atStart => exact ⟨0, D, by rw [HDL.out]; rfl, Or.inl rfl, by omega, rfl, rfl⟩
  case round =>
    obtain ⟨j, r, hr, hj, hjn, rfl, rfl⟩ := hrel
    have hrs : r.size = j + (Num.digs z.natAbs).length := by rw [← size_toList, hr]; simp
    have hrl : r.size ≤ 5000 := by omega
    have HR := Lib.hid hr
    have HRS := Lib.hid hrs
    clear hr hrs
    by_cases hlt : (r.size : Int) < (n : Int) + 1
    · have hb : ¬ 9223372036854775807 < 1 + r.size := by omega
      go_wp2_with fail
      go_roundw
      case rel =>
        refine ⟨j + 1, ⟨#[48]⟩ ++ r, ?_, ?_, ?_, rfl, trivial⟩
        · rw [ByteArray.data_append, Array.toList_append, HR.out, List.replicate_succ]; rfl
        · right; rw [ByteArray.size_append]; show 1 + r.size ≤ n + 1; omega
        · have := HRS.out; omega
      case measure =>
        show n + 1 - (ByteArray.mk #[48] ++ r).size < n + 1 - r.size
        rw [ByteArray.size_append]
        show n + 1 - (1 + r.size) < _
        omega
    · obtain ⟨A, G, L, hP⟩ := PadAt.of HR.out hj.out (by omega)
      have HP := Lib.hid hP
      clear hj hjn
      by_cases hn0 : n = 0
      · subst hn0
        have HE := Lib.hid (text_list0 hP)
        clear hP
        have hb2 : ¬ 9223372036854775807 < 1 + r.size := by omega
        go_wp2_with fail
        go_ret
        refine ⟨?_, hBV⟩
        refine congrArg (fun b => Ending.returned (.string b)) (ByteArray.ext (Array.toList_inj.1 ?_))
        rw [← HE.out, if_pos (by have := HSG.out; omega)]
        simp
      · have HE := Lib.hid (text_list hP hn0)
        have hsz := hP.size
        have hLp := hP.pos
        have hAs : A.size = L := by rw [← hP.eA, ByteArray.size_extract]; omega
        have hGs : G.size = n := by rw [← hP.eG, ByteArray.size_extract]; omega
        have hpt : IntKind.i64.wrap ((r.size : Int) - n) = (L : Int) := by rw [IntWalk.i64_in _ (by omega)]; omega
        have hlx : L ≤ r.size := by omega
        have hn1 : ((n : Int) == 0) = false := by simp; omega
        have eA := hP.eA
        have eG := hP.eG
        have hb2 : ¬ 9223372036854775807 < 1 + A.size := by omega
        have hb3 : ¬ 9223372036854775807 < 1 + A.size + 1 := by omega
        have hb4 : ¬ 9223372036854775807 < 1 + A.size + 1 + G.size := by omega
        have HSZ := Lib.hid hsz
        clear hP hsz hn0 hLp
        go_wp2_with fail
        go_region
        all_goals go_wp2_with fail
        all_goals go_ret
        all_goals refine ⟨?_, (by first | exact hBV | exact below_drewN hBV _ | exact below_drewN hBV 1)⟩
        all_goals refine congrArg (fun b => Ending.returned (.string b)) (ByteArray.ext (Array.toList_inj.1 ?_))
        all_goals rw [← HE.out, if_pos (by have := HSG.out; omega)]
        all_goals simp

theorem kTextOf_any {s : ByteArray} {z : Int} (n : Nat) (w : World) (hs : s.size ≤ 1000) (hz : vS s = z) (hn : n ≤ 1000) :
    Calls Tryz.prog 59 #[.string s, .int .i64 (n : Int)] w fun e w' => e = .returned (.string (txt z n)) ∧ Below w.heap.size w w' := by
  by_cases h : z < 0
  · exact kTextOf_n n w hs hz hn h
  · exact kTextOf_p n w hs hz hn h
set_option maxHeartbeats 1000000 in
theorem kText_range (s : ByteArray) {n : Int} (hn : okP n = false) : Ret 22 #[.string s, .int .i64 n] (two ⟨#[]⟩ 2) := by
  refine Ret.of_same fun w => ?_
  have HN := Lib.hid hn
  clear hn
  go_enter Tryz.func22, Tryz.ntmps22
  go_wp2_with fail
  refine (kPlaces n w).mono ?_
  rintro _ _ ⟨rfl, rfl⟩
  rw [HN.out]
  go_wp2_with fail
  go_ret2
  exact ⟨rfl, rfl⟩
set_option maxHeartbeats 1000000 in
theorem kText_ok {s : ByteArray} {z : Int} {p : Nat} (hs : s.size ≤ 1000) (hz : vS s = z) (hp : p ≤ 12) : Ret 22 #[.string s, .int .i64 (p : Int)] (two (txt z p) 0) := by
  intro w _
  have HN := Lib.hid (okP_true (n := (p : Int)) (by omega) (by omega))
  go_enter Tryz.func22, Tryz.ntmps22
  go_wp2_with fail
  refine (kPlaces p w).mono ?_
  rintro _ _ ⟨rfl, rfl⟩
  rw [HN.out]
  go_wp2_with fail
  refine (kTextOf_any p w hs hz (by omega)).mono ?_
  rintro _ w1 ⟨rfl, hB⟩
  go_wp2_with fail
  go_ret2
  exact ⟨rfl, hB⟩

end Go.Proofs.YtlonbfddhfacmaaGreatDoor

/- The reference implementation of layer 3: RoundTo, Round, Scale, Format: the walks. -/
namespace Go.Proofs.YtlonbfddhfacmaaGreatDoor
open Go.RowKit Fra

theorem round_ways {m q r d z c cn : Int} (hr : r ≠ 0) (h1 : 1 ≤ m) (h6 : m ≤ 6) (hc : cmp3 (2 * r) d = c) (hcn : cn < 0 ↔ q < 0) (hz : rndR m q r d = z) :
    (m = 1 ∧ (0 < c) ∧ q + 1 = z) ∨ (m = 1 ∧ (c = 0 ∧ q % 2 = 1) ∧ q + 1 = z) ∨ (m = 1 ∧ (c = 0 ∧ q % 2 = 0) ∧ q = z) ∨ (m = 1 ∧ (c < 0) ∧ q = z) ∨ (m = 2 ∧ (0 < c) ∧ q + 1 = z) ∨ (m = 2 ∧ (c = 0 ∧ ¬ cn < 0) ∧ q + 1 = z) ∨ (m = 2 ∧ (c = 0 ∧ cn < 0) ∧ q = z) ∨ (m = 2 ∧ (c < 0) ∧ q = z) ∨ (m = 3 ∧ (cn < 0) ∧ q + 1 = z) ∨ (m = 3 ∧ (¬ cn < 0) ∧ q = z) ∨ (m = 4 ∧ (¬ cn < 0) ∧ q + 1 = z) ∨ (m = 4 ∧ (cn < 0) ∧ q = z) ∨ (m = 5 ∧ (True) ∧ q = z) ∨ (m = 6 ∧ (True) ∧ q + 1 = z) := by
  rw [rndR_up, if_neg hr, hc] at hz
  clear hr hc
  have hw : m = 1 ∨ m = 2 ∨ m = 3 ∨ m = 4 ∨ m = 5 ∨ m = 6 := by omega
  clear h1 h6
  rcases hw with rfl | rfl | rfl | rfl | rfl | rfl
  · rw [show upB 1 q c = decide (0 < c ∨ (c = 0 ∧ q % 2 = 1)) from decide_eq_decide.2 (by omega)] at hz
    rcases (show (0 < c) ∨ (c = 0 ∧ q % 2 = 1) ∨ (c = 0 ∧ q % 2 = 0) ∨ (c < 0) by omega) with h | h | h | h
    · exact Or.inl ⟨rfl, h, by rw [if_pos (by rw [decide_eq_true_eq]; omega)] at hz; exact hz⟩
    · exact Or.inr (Or.inl ⟨rfl, h, by rw [if_pos (by rw [decide_eq_true_eq]; omega)] at hz; exact hz⟩)
    · exact Or.inr (Or.inr (Or.inl ⟨rfl, h, by rw [if_neg (by rw [decide_eq_true_eq]; omega)] at hz; exact hz⟩))
    · exact Or.inr (Or.inr (Or.inr (Or.inl ⟨rfl, h, by rw [if_neg (by rw [decide_eq_true_eq]; omega)] at hz; exact hz⟩)))
  · rw [show upB 2 q c = decide (0 < c ∨ (c = 0 ∧ 0 ≤ q)) from decide_eq_decide.2 (by omega)] at hz
    rcases (show (0 < c) ∨ (c = 0 ∧ ¬ cn < 0) ∨ (c = 0 ∧ cn < 0) ∨ (c < 0) by omega) with h | h | h | h
    · exact Or.inr (Or.inr (Or.inr (Or.inr (Or.inl ⟨rfl, h, by rw [if_pos (by rw [decide_eq_true_eq]; omega)] at hz; exact hz⟩))))
    · exact Or.inr (Or.inr (Or.inr (Or.inr (Or.inr (Or.inl ⟨rfl, h, by rw [if_pos (by rw [decide_eq_true_eq]; omega)] at hz; exact hz⟩)))))
    · exact Or.inr (Or.inr (Or.inr (Or.inr (Or.inr (Or.inr (Or.inl ⟨rfl, h, by rw [if_neg (by rw [decide_eq_true_eq]; omega)] at hz; exact hz⟩))))))
    · exact Or.inr (Or.inr (Or.inr (Or.inr (Or.inr (Or.inr (Or.inr (Or.inl ⟨rfl, h, by rw [if_neg (by rw [decide_eq_true_eq]; omega)] at hz; exact hz⟩)))))))
  · rw [show upB 3 q c = decide (q < 0) from decide_eq_decide.2 (by omega)] at hz
    rcases (show (cn < 0) ∨ (¬ cn < 0) by omega) with h | h
    · exact Or.inr (Or.inr (Or.inr (Or.inr (Or.inr (Or.inr (Or.inr (Or.inr (Or.inl ⟨rfl, h, by rw [if_pos (by rw [decide_eq_true_eq]; omega)] at hz; exact hz⟩))))))))
    · exact Or.inr (Or.inr (Or.inr (Or.inr (Or.inr (Or.inr (Or.inr (Or.inr (Or.inr (Or.inl ⟨rfl, h, by rw [if_neg (by rw [decide_eq_true_eq]; omega)] at hz; exact hz⟩)))))))))
  · rw [show upB 4 q c = decide (0 ≤ q) from decide_eq_decide.2 (by omega)] at hz
    rcases (show (¬ cn < 0) ∨ (cn < 0) by omega) with h | h
    · exact Or.inr (Or.inr (Or.inr (Or.inr (Or.inr (Or.inr (Or.inr (Or.inr (Or.inr (Or.inr (Or.inl ⟨rfl, h, by rw [if_pos (by rw [decide_eq_true_eq]; omega)] at hz; exact hz⟩))))))))))
    · exact Or.inr (Or.inr (Or.inr (Or.inr (Or.inr (Or.inr (Or.inr (Or.inr (Or.inr (Or.inr (Or.inr (Or.inl ⟨rfl, h, by rw [if_neg (by rw [decide_eq_true_eq]; omega)] at hz; exact hz⟩)))))))))))
  · exact Or.inr (Or.inr (Or.inr (Or.inr (Or.inr (Or.inr (Or.inr (Or.inr (Or.inr (Or.inr (Or.inr (Or.inr (Or.inl ⟨rfl, trivial, by simpa [upB] using hz⟩))))))))))))
  · exact Or.inr (Or.inr (Or.inr (Or.inr (Or.inr (Or.inr (Or.inr (Or.inr (Or.inr (Or.inr (Or.inr (Or.inr (Or.inr (⟨rfl, trivial, by simpa [upB] using hz⟩)))))))))))))

set_option maxRecDepth 100000 in
set_option maxHeartbeats 16000000 in
theorem kRoundTo_e {fn fd : ByteArray} {m z : Int} (hn : fn.size ≤ 300) (hd : fd.size ≤ 300) (h0 : rest (raw fn fd) = 0) (hz : rnd m (raw fn fd) = z) : Ret 52 #[.agg #[.string fn, .string fd], .int .i64 m] (.string (cS z)) := by
  intro w hG
  obtain ⟨x, hx⟩ : ∃ x, raw fn fd = x := ⟨_, rfl⟩
  have hxp : 0 < x.2 := by rw [← hx]; exact raw_pos _ _
  have hcx : CapP 300 x := by rw [← hx]; exact CapP.of_raw (by decide) hn hd
  obtain ⟨q, hq⟩ : ∃ q, Int.fdiv x.1 x.2 = q := ⟨_, rfl⟩
  have hcq : Cap 301 q := by rw [← hq]; exact Cap.fdiv' hcx.1 hxp
  have hqs : (cS q).size ≤ 302 := cS_size hcq
  have hrq : raw (cS q) ⟨#[]⟩ = (q, 1) := by unfold raw; rw [vS_cS, vS_nil]; rfl
  obtain ⟨D, hD⟩ : ∃ D, addP x (negP (q, 1)) = D := ⟨_, rfl⟩
  have hDp : 0 < D.2 := by rw [← hD]; exact addP_pos hxp (negP_pos (x := (q, 1)) Int.one_pos)
  have hDs : (cS D.1).size ≤ 400 ∧ (cD D.2).size ≤ 400 := by
    have h1 : Same D (rest x, x.2) := by rw [← hD, ← hq]; exact rest_same
    have h2 := rest_bounds hxp
    have h3 : D = low (rest x, x.2) := by
      have h4 : Low D := by rw [← hD]; exact Low.of_addP hxp (negP_pos (x := (q, 1)) Int.one_pos)
      rw [← h4.eq]
      exact low_eq hDp hxp h1
    have h5 : CapP 300 (low (rest x, x.2)) := CapP.low ⟨by have := hcx.2; unfold Cap at *; omega, hcx.2⟩ hxp
    rw [h3]
    have h6 := cS_size h5.1
    have h7 := cD_size h5.2
    omega
  have HFL := Lib.hid (show Ret 95 #[.agg #[.string fn, .string fd]] (.string (cS q)) from fun W hW => by have := qFloor_any fn fd W hW (by omega) (by omega); rwa [hx, hq] at this)
  have HOQ := Lib.hid (show Ret 57 #[.string (cS q)] (.agg #[.string (cS q), .string ⟨#[]⟩]) from fun W _ => qOf_any W (by omega) (vS_cS q))
  have HSU := Lib.hid (show Ret 96 #[.agg #[.string fn, .string fd], .agg #[.string (cS q), .string ⟨#[]⟩]] (.agg #[.string (cS D.1), .string (cD D.2)]) from fun W hW => by
    have h := qSub_any fn fd (cS q) ⟨#[]⟩ W hW (by omega) (by omega) (by omega) (by decide)
    rw [hx, hrq, hD] at h
    exact h)
  have HOZ := Lib.hid (show Ret 57 #[.string ⟨#[]⟩] (.agg #[.string ⟨#[]⟩, .string ⟨#[]⟩]) from fun W _ => by
    have h := qOf_any (a := ⟨#[]⟩) (x := 0) W (by decide) vS_nil
    rwa [cS_zero] at h)
  have hrD : raw (cS D.1) (cD D.2) = D := raw_can hDp
  have e0 : cmpP D (0, 1) = cmp3 (rest x) 0 := by rw [← hD, ← hq]; exact rest_cmp0 hxp
  have HC0 := Lib.hid (show Ret 97 #[.agg #[.string (cS D.1), .string (cD D.2)], .agg #[.string ⟨#[]⟩, .string ⟨#[]⟩]] (.int .i64 (cmp3 (rest x) 0)) from fun W hW => by
    have h := qCompare_any (cS D.1) (cD D.2) ⟨#[]⟩ ⟨#[]⟩ W hW hDs.1 hDs.2 (by decide) (by decide)
    rw [hrD, raw_nil, e0] at h
    exact h)
  rw [hx] at h0 hz
  have HZ := Lib.hid (show cmp3 (rest x) 0 = 0 by rw [h0]; rfl)
  have hqz : q = z := by rw [← hz, ← hq]; unfold rnd rndR; rw [if_pos h0]
  subst hqz
  clear hn hd hx hxp hcx hq hcq hqs hrq hD hDp hDs hrD h0 hz
  obtain ⟨W0, hW0⟩ : ∃ W0, W0 = w.alloc (.cells #[.string fn, .string fd] 24) := ⟨_, rfl⟩
  have hS : StL w W0 [(w.heap.size, fn, fd)] := by rw [hW0]; exact StL.one hG _ _
  go_enter Tryz.func52, Tryz.ntmps52
  go_upto_region 1 with fail
  rw [← hW0]
  clear hW0
  obtain ⟨fp0, _⟩ := hS.box
  obtain ⟨fx0, fy0, _, _⟩ := fp0.cells
  go_wp2_with fail
  clear fp0 fx0 fy0
  refine Calls.mono (Ret.call HFL.out _ hS.g) ?_
  rintro _ w1 ⟨rfl, hB⟩
  replace hS := hS.next hB
  clear hB
  obtain ⟨fp0, _⟩ := hS.box
  obtain ⟨fx0, fy0, _, _⟩ := fp0.cells
  go_upto_region 2 with fail
  clear fp0 fx0 fy0
  obtain ⟨fp0, _⟩ := hS.box
  obtain ⟨fx0, fy0, _, _⟩ := fp0.cells
  try go_upto_region 2 with fail
  have HS := Lib.hid hS
  clear hS
  have hne0 : w1.heap.size ≠ w.heap.size := World.new_ne w1 _ fx0
  have hle0_0 : w.heap.size < w1.heap.size := fp0.lt
  go_cut [6] (fun s6 wx => ∃ b1_0 : Nat, s6 = .pointer (some ⟨b1_0, 0, none⟩) ∧ StL w wx [(b1_0, (cS D.1), (cD D.2)), (w.heap.size, fn, fd)])
  case first =>
    go_region_held3 (fun w' => w'.cell? ⟨w.heap.size, 0, none⟩ = some (.string fn) ∧ w'.cell? ⟨w.heap.size, 1, none⟩ = some (.string fd))
      (go_keep)
      (first
    | (go_at_call 57;
         (with_reducible refine Calls.mono (Ret.call HOQ.out _ (by first | exact HS.out.g | exact HS.out.drew.g | exact (HS.out.drewN _).g | exact (HS.out.other _).g | exact (HS.out.drew.other _).g | exact (HS.out.other _).drew.g | exact ((HS.out.other _).other _).g | exact ((HS.out.drew.other _).other _).g | exact ((HS.out.other _).other _).drew.g | exact ((HS.out.drew.other _).drew.other _).g | exact ((HS.out.other _).drew.other _).g)) ?_);
         (rintro e X1_1 ⟨rfl, hB1⟩);
         (first
           | ((have HS2 : StL w X1_1 ([(w.heap.size, fn, fd)]) := (by first | exact HS.out.next hB1 | exact HS.out.next1 hB1 | exact HS.out.nextD hB1 | exact (HS.out.alloc _ _).next hB1 | exact (HS.out.drew.alloc _ _).next hB1 | exact (HS.out.alloc _ _).drew.next hB1 | exact (HS.out.alloc2 _ _ _ _).next hB1 | exact (HS.out.drew.alloc2 _ _ _ _).next hB1 | exact (HS.out.alloc2 _ _ _ _).drew.next hB1)); (replace HS := Lib.hid HS2); (clear HS2); (obtain ⟨fp0, _⟩ := HS.out.box); (obtain ⟨fx0, fy0, _, _⟩ := fp0.cells); (have hle0_1 : w.heap.size < X1_1.heap.size := fp0.lt))
           | ((have HS2 : StL w X1_1 ((w1.heap.size, ⟨#[]⟩, ⟨#[]⟩) :: [(w.heap.size, fn, fd)]) := (by first | exact HS.out.next hB1 | exact HS.out.next1 hB1 | exact HS.out.nextD hB1 | exact (HS.out.alloc _ _).next hB1 | exact (HS.out.drew.alloc _ _).next hB1 | exact (HS.out.alloc _ _).drew.next hB1 | exact (HS.out.alloc2 _ _ _ _).next hB1 | exact (HS.out.drew.alloc2 _ _ _ _).next hB1 | exact (HS.out.alloc2 _ _ _ _).drew.next hB1)); (replace HS := Lib.hid HS2); (clear HS2); (obtain ⟨pn0, fp0, _⟩ := HS.out.box); (obtain ⟨nx0, ny0, nz0, nw0⟩ := pn0.cells); (have hnp0 : X1_1.heap.size ≠ w1.heap.size := World.new_ne _ _ nx0); (have hnq0 : w1.heap.size < X1_1.heap.size := pn0.lt); (obtain ⟨fx0, fy0, _, _⟩ := fp0.cells); (have hle0_1 : w.heap.size < X1_1.heap.size := fp0.lt); (have hnr0_0 : w1.heap.size ≠ w.heap.size := (by omega))));
         (clear hB1);
         (have hne0 : X1_1.heap.size ≠ w.heap.size := World.new_ne X1_1 _ fx0))
    | (go_at_call 96;
         (with_reducible refine Calls.mono (Ret.call HSU.out _ (by first | exact HS.out.g | exact HS.out.drew.g | exact (HS.out.drewN _).g | exact (HS.out.other _).g | exact (HS.out.drew.other _).g | exact (HS.out.other _).drew.g | exact ((HS.out.other _).other _).g | exact ((HS.out.drew.other _).other _).g | exact ((HS.out.other _).other _).drew.g | exact ((HS.out.drew.other _).drew.other _).g | exact ((HS.out.other _).drew.other _).g)) ?_);
         (rintro e X1_2 ⟨rfl, hB1⟩);
         (first
           | ((have HS2 : StL w X1_2 ([(w.heap.size, fn, fd)]) := (by first | exact HS.out.next hB1 | exact HS.out.next1 hB1 | exact HS.out.nextD hB1 | exact (HS.out.alloc _ _).next hB1 | exact (HS.out.drew.alloc _ _).next hB1 | exact (HS.out.alloc _ _).drew.next hB1 | exact (HS.out.alloc2 _ _ _ _).next hB1 | exact (HS.out.drew.alloc2 _ _ _ _).next hB1 | exact (HS.out.alloc2 _ _ _ _).drew.next hB1)); (replace HS := Lib.hid HS2); (clear HS2); (obtain ⟨fp0, _⟩ := HS.out.box); (obtain ⟨fx0, fy0, _, _⟩ := fp0.cells); (have hle0_2 : w.heap.size < X1_2.heap.size := fp0.lt))
           | ((have HS2 : StL w X1_2 ((X1_1.heap.size, ⟨#[]⟩, ⟨#[]⟩) :: [(w.heap.size, fn, fd)]) := (by first | exact HS.out.next hB1 | exact HS.out.next1 hB1 | exact HS.out.nextD hB1 | exact (HS.out.alloc _ _).next hB1 | exact (HS.out.drew.alloc _ _).next hB1 | exact (HS.out.alloc _ _).drew.next hB1 | exact (HS.out.alloc2 _ _ _ _).next hB1 | exact (HS.out.drew.alloc2 _ _ _ _).next hB1 | exact (HS.out.alloc2 _ _ _ _).drew.next hB1)); (replace HS := Lib.hid HS2); (clear HS2); (obtain ⟨pn0, fp0, _⟩ := HS.out.box); (obtain ⟨nx0, ny0, nz0, nw0⟩ := pn0.cells); (have hnp0 : X1_2.heap.size ≠ X1_1.heap.size := World.new_ne _ _ nx0); (have hnq0 : X1_1.heap.size < X1_2.heap.size := pn0.lt); (obtain ⟨fx0, fy0, _, _⟩ := fp0.cells); (have hle0_2 : w.heap.size < X1_2.heap.size := fp0.lt); (have hnr0_0 : X1_1.heap.size ≠ w.heap.size := (by omega)))
           | ((have HS2 : StL w X1_2 ((w1.heap.size, ⟨#[]⟩, ⟨#[]⟩) :: [(w.heap.size, fn, fd)]) := (by first | exact HS.out.next hB1 | exact HS.out.next1 hB1 | exact HS.out.nextD hB1 | exact (HS.out.alloc _ _).next hB1 | exact (HS.out.drew.alloc _ _).next hB1 | exact (HS.out.alloc _ _).drew.next hB1 | exact (HS.out.alloc2 _ _ _ _).next hB1 | exact (HS.out.drew.alloc2 _ _ _ _).next hB1 | exact (HS.out.alloc2 _ _ _ _).drew.next hB1)); (replace HS := Lib.hid HS2); (clear HS2); (obtain ⟨pn0, fp0, _⟩ := HS.out.box); (obtain ⟨nx0, ny0, nz0, nw0⟩ := pn0.cells); (have hnp0 : X1_2.heap.size ≠ w1.heap.size := World.new_ne _ _ nx0); (have hnq0 : w1.heap.size < X1_2.heap.size := pn0.lt); (obtain ⟨fx0, fy0, _, _⟩ := fp0.cells); (have hle0_2 : w.heap.size < X1_2.heap.size := fp0.lt); (have hnr0_0 : w1.heap.size ≠ w.heap.size := (by omega))));
         (clear hB1);
         (have hne0 : X1_2.heap.size ≠ w.heap.size := World.new_ne X1_2 _ fx0)))
    all_goals go_wp2_with fail
    all_goals go_meet
    all_goals refine ⟨_, rfl, ?_⟩
    all_goals first
      | with_reducible exact HS.out.alloc _ _
      | with_reducible exact StL.fill hG HS.out _ _
      | with_reducible exact (HS.out.alloc _ _).drew
      | with_reducible exact HS.out.drew.alloc _ _
      | with_reducible exact StL.fill hG HS.out.drew _ _
      | with_reducible exact (HS.out.drew.alloc _ _).drew
  clear HS hne0 hle0_0
  clear fp0 fx0 fy0
  obtain ⟨b1_0, rfl, hS⟩ := hcut
  obtain ⟨w2, hw⟩ : ∃ W, W = wc := ⟨_, rfl⟩
  rw [← hw] at hS
  rw [← hw]
  clear hw
  obtain ⟨fp0, fp1, _⟩ := hS.box
  obtain ⟨fx0, fy0, _, _⟩ := fp0.cells
  obtain ⟨fx1, fy1, _, _⟩ := fp1.cells
  go_wp2_with fail
  clear fp0 fx0 fy0 fp1 fx1 fy1
  refine Calls.mono (Ret.call HOZ.out _ hS.g) ?_
  rintro _ w3 ⟨rfl, hB⟩
  replace hS := hS.next hB
  clear hB
  go_upto_region 4 with fail
  obtain ⟨b4, hb4⟩ : ∃ b, b = w3.heap.size := ⟨_, rfl⟩
  obtain ⟨V4, hV4⟩ : ∃ V, V = w3.alloc (.cells #[.string ⟨#[]⟩, .string ⟨#[]⟩] 24) := ⟨_, rfl⟩
  have hT : StL w V4 [(b4, ⟨#[]⟩, ⟨#[]⟩), (b1_0, (cS D.1), (cD D.2)), (w.heap.size, fn, fd)] := by rw [hV4, hb4]; exact hS.alloc _ _
  rw [← hb4, ← hV4]
  clear hV4 hb4 hS
  have hS := hT
  clear hT
  obtain ⟨fp0, fp1, fp2, _⟩ := hS.box
  obtain ⟨fx0, fy0, _, _⟩ := fp0.cells
  obtain ⟨fx1, fy1, _, _⟩ := fp1.cells
  obtain ⟨fx2, fy2, _, _⟩ := fp2.cells
  go_wp2_with fail
  clear fp0 fx0 fy0 fp1 fx1 fy1 fp2 fx2 fy2
  refine Calls.mono (Ret.call HC0.out _ hS.g) ?_
  rintro _ w5 ⟨rfl, hB⟩
  replace hS := hS.next hB
  clear hB
  rw [HZ.out]
  obtain ⟨fp0, fp1, fp2, _⟩ := hS.box
  obtain ⟨fx0, fy0, _, _⟩ := fp0.cells
  obtain ⟨fx1, fy1, _, _⟩ := fp1.cells
  obtain ⟨fx2, fy2, _, _⟩ := fp2.cells
  go_wp2_with fail
  go_ret
  exact ⟨rfl, hS.below⟩
end Go.Proofs.YtlonbfddhfacmaaGreatDoor

/- The reference implementation of layer 3: RoundTo, Round, Scale, Format: the walks. -/
namespace Go.Proofs.YtlonbfddhfacmaaGreatDoor
open Go.RowKit Fra

set_option maxRecDepth 100000 in
set_option maxHeartbeats 16000000 in
theorem kRoundTo_r {fn fd : ByteArray} {m z : Int} (hn : fn.size ≤ 300) (hd : fd.size ≤ 300) (h1 : 1 ≤ m) (h6 : m ≤ 6) (h0 : rest (raw fn fd) ≠ 0) (hz : rnd m (raw fn fd) = z) : Ret 52 #[.agg #[.string fn, .string fd], .int .i64 m] (.string (cS z)) := by
  intro w hG
  obtain ⟨x, hx⟩ : ∃ x, raw fn fd = x := ⟨_, rfl⟩
  have hxp : 0 < x.2 := by rw [← hx]; exact raw_pos _ _
  have hcx : CapP 300 x := by rw [← hx]; exact CapP.of_raw (by decide) hn hd
  obtain ⟨q, hq⟩ : ∃ q, Int.fdiv x.1 x.2 = q := ⟨_, rfl⟩
  have hcq : Cap 301 q := by rw [← hq]; exact Cap.fdiv' hcx.1 hxp
  have hqs : (cS q).size ≤ 302 := cS_size hcq
  have hrq : raw (cS q) ⟨#[]⟩ = (q, 1) := by unfold raw; rw [vS_cS, vS_nil]; rfl
  obtain ⟨D, hD⟩ : ∃ D, addP x (negP (q, 1)) = D := ⟨_, rfl⟩
  have hDp : 0 < D.2 := by rw [← hD]; exact addP_pos hxp (negP_pos (x := (q, 1)) Int.one_pos)
  have hDs : (cS D.1).size ≤ 400 ∧ (cD D.2).size ≤ 400 := by
    have h1 : Same D (rest x, x.2) := by rw [← hD, ← hq]; exact rest_same
    have h2 := rest_bounds hxp
    have h3 : D = low (rest x, x.2) := by
      have h4 : Low D := by rw [← hD]; exact Low.of_addP hxp (negP_pos (x := (q, 1)) Int.one_pos)
      rw [← h4.eq]
      exact low_eq hDp hxp h1
    have h5 : CapP 300 (low (rest x, x.2)) := CapP.low ⟨by have := hcx.2; unfold Cap at *; omega, hcx.2⟩ hxp
    rw [h3]
    have h6 := cS_size h5.1
    have h7 := cD_size h5.2
    omega
  have HFL := Lib.hid (show Ret 95 #[.agg #[.string fn, .string fd]] (.string (cS q)) from fun W hW => by have := qFloor_any fn fd W hW (by omega) (by omega); rwa [hx, hq] at this)
  have HOQ := Lib.hid (show Ret 57 #[.string (cS q)] (.agg #[.string (cS q), .string ⟨#[]⟩]) from fun W _ => qOf_any W (by omega) (vS_cS q))
  have HSU := Lib.hid (show Ret 96 #[.agg #[.string fn, .string fd], .agg #[.string (cS q), .string ⟨#[]⟩]] (.agg #[.string (cS D.1), .string (cD D.2)]) from fun W hW => by
    have h := qSub_any fn fd (cS q) ⟨#[]⟩ W hW (by omega) (by omega) (by omega) (by decide)
    rw [hx, hrq, hD] at h
    exact h)
  have HOZ := Lib.hid (show Ret 57 #[.string ⟨#[]⟩] (.agg #[.string ⟨#[]⟩, .string ⟨#[]⟩]) from fun W _ => by
    have h := qOf_any (a := ⟨#[]⟩) (x := 0) W (by decide) vS_nil
    rwa [cS_zero] at h)
  have hrD : raw (cS D.1) (cD D.2) = D := raw_can hDp
  have e0 : cmpP D (0, 1) = cmp3 (rest x) 0 := by rw [← hD, ← hq]; exact rest_cmp0 hxp
  have HC0 := Lib.hid (show Ret 97 #[.agg #[.string (cS D.1), .string (cD D.2)], .agg #[.string ⟨#[]⟩, .string ⟨#[]⟩]] (.int .i64 (cmp3 (rest x) 0)) from fun W hW => by
    have h := qCompare_any (cS D.1) (cD D.2) ⟨#[]⟩ ⟨#[]⟩ W hW hDs.1 hDs.2 (by decide) (by decide)
    rw [hrD, raw_nil, e0] at h
    exact h)
  rw [hx] at h0 hz
  have hrb := rest_bounds hxp
  have HZ := Lib.hid (show cmp3 (rest x) 0 = 1 from cmp3_gt (by omega))
  have HNX := Lib.hid (show Ret 98 #[.string (cS q), .string ⟨#[49]⟩] (.string (cS (q + 1))) from fun W _ => qAdd W (by omega) (by decide) (vS_cS q) vS_one rfl)
  have HHF := Lib.hid (show Ret 67 #[.string ⟨#[49]⟩, .string ⟨#[50]⟩] (fraE ⟨#[49]⟩ ⟨#[50]⟩ 0) from fun W hW => by
    have h := qNew_any (n := ⟨#[49]⟩) (d := ⟨#[50]⟩) (x := 1) (y := 2) W hW (by decide) (by decide) (by decide +kernel) (by decide +kernel) (by decide)
    rw [show cS (redS 1 2).1 = ⟨#[49]⟩ by decide +kernel, show cD (redS 1 2).2 = ⟨#[50]⟩ by decide +kernel] at h
    exact h)
  obtain ⟨c, hc⟩ : ∃ c, cmp3 (2 * rest x) x.2 = c := ⟨_, rfl⟩
  obtain ⟨cn, hcn⟩ : ∃ c, cmpP x (0, 1) = c := ⟨_, rfl⟩
  have e2 : cmpP D (1, 2) = c := by rw [← hD, ← hq, rest_cmp2 hxp]; exact hc
  have HCH := Lib.hid (show Ret 97 #[.agg #[.string (cS D.1), .string (cD D.2)], .agg #[.string ⟨#[49]⟩, .string ⟨#[50]⟩]] (.int .i64 c) from fun W hW => by
    have h := qCompare_any (cS D.1) (cD D.2) ⟨#[49]⟩ ⟨#[50]⟩ W hW hDs.1 hDs.2 (by decide) (by decide)
    rw [hrD, show raw ⟨#[49]⟩ ⟨#[50]⟩ = (1, 2) by decide +kernel, e2] at h
    exact h)
  have HCN := Lib.hid (show Ret 97 #[.agg #[.string fn, .string fd], .agg #[.string ⟨#[]⟩, .string ⟨#[]⟩]] (.int .i64 cn) from fun W hW => by
    have h := qCompare_any fn fd ⟨#[]⟩ ⟨#[]⟩ W hW (by omega) (by omega) (by decide) (by decide)
    rw [hx, raw_nil, hcn] at h
    exact h)
  have HQS := Lib.hid (show (cS q).size ≤ 4294967296 by omega)
  have hsg : cn < 0 ↔ q < 0 := by rw [← hcn, ← hq, cmpP_zero]; exact floor_sign hxp
  have HW := Lib.hid (round_ways (z := z) h0 h1 h6 hc hsg (by rw [← hq]; exact hz))
  clear hn hd hx hxp hcx hq hcq hqs hrq hD hDp hDs hrD h0 hz hrb hc hcn h1 h6 hsg
  obtain ⟨W0, hW0⟩ : ∃ W0, W0 = w.alloc (.cells #[.string fn, .string fd] 24) := ⟨_, rfl⟩
  have hS : StL w W0 [(w.heap.size, fn, fd)] := by rw [hW0]; exact StL.one hG _ _
  go_enter Tryz.func52, Tryz.ntmps52
  go_upto_region 1 with fail
  rw [← hW0]
  clear hW0
  obtain ⟨fp0, _⟩ := hS.box
  obtain ⟨fx0, fy0, _, _⟩ := fp0.cells
  go_wp2_with fail
  clear fp0 fx0 fy0
  refine Calls.mono (Ret.call HFL.out _ hS.g) ?_
  rintro _ w1 ⟨rfl, hB⟩
  replace hS := hS.next hB
  clear hB
  obtain ⟨fp0, _⟩ := hS.box
  obtain ⟨fx0, fy0, _, _⟩ := fp0.cells
  go_upto_region 2 with fail
  clear fp0 fx0 fy0
  obtain ⟨fp0, _⟩ := hS.box
  obtain ⟨fx0, fy0, _, _⟩ := fp0.cells
  try go_upto_region 2 with fail
  have HS := Lib.hid hS
  clear hS
  have hne0 : w1.heap.size ≠ w.heap.size := World.new_ne w1 _ fx0
  have hle0_0 : w.heap.size < w1.heap.size := fp0.lt
  go_cut [6] (fun s6 wx => ∃ b1_0 : Nat, s6 = .pointer (some ⟨b1_0, 0, none⟩) ∧ StL w wx [(b1_0, (cS D.1), (cD D.2)), (w.heap.size, fn, fd)])
  case first =>
    go_region_held3 (fun w' => w'.cell? ⟨w.heap.size, 0, none⟩ = some (.string fn) ∧ w'.cell? ⟨w.heap.size, 1, none⟩ = some (.string fd))
      (go_keep)
      (first
    | (go_at_call 57;
         (with_reducible refine Calls.mono (Ret.call HOQ.out _ (by first | exact HS.out.g | exact HS.out.drew.g | exact (HS.out.drewN _).g | exact (HS.out.other _).g | exact (HS.out.drew.other _).g | exact (HS.out.other _).drew.g | exact ((HS.out.other _).other _).g | exact ((HS.out.drew.other _).other _).g | exact ((HS.out.other _).other _).drew.g | exact ((HS.out.drew.other _).drew.other _).g | exact ((HS.out.other _).drew.other _).g)) ?_);
         (rintro e X1_1 ⟨rfl, hB1⟩);
         (first
           | ((have HS2 : StL w X1_1 ([(w.heap.size, fn, fd)]) := (by first | exact HS.out.next hB1 | exact HS.out.next1 hB1 | exact HS.out.nextD hB1 | exact (HS.out.alloc _ _).next hB1 | exact (HS.out.drew.alloc _ _).next hB1 | exact (HS.out.alloc _ _).drew.next hB1 | exact (HS.out.alloc2 _ _ _ _).next hB1 | exact (HS.out.drew.alloc2 _ _ _ _).next hB1 | exact (HS.out.alloc2 _ _ _ _).drew.next hB1)); (replace HS := Lib.hid HS2); (clear HS2); (obtain ⟨fp0, _⟩ := HS.out.box); (obtain ⟨fx0, fy0, _, _⟩ := fp0.cells); (have hle0_1 : w.heap.size < X1_1.heap.size := fp0.lt))
           | ((have HS2 : StL w X1_1 ((w1.heap.size, ⟨#[]⟩, ⟨#[]⟩) :: [(w.heap.size, fn, fd)]) := (by first | exact HS.out.next hB1 | exact HS.out.next1 hB1 | exact HS.out.nextD hB1 | exact (HS.out.alloc _ _).next hB1 | exact (HS.out.drew.alloc _ _).next hB1 | exact (HS.out.alloc _ _).drew.next hB1 | exact (HS.out.alloc2 _ _ _ _).next hB1 | exact (HS.out.drew.alloc2 _ _ _ _).next hB1 | exact (HS.out.alloc2 _ _ _ _).drew.next hB1)); (replace HS := Lib.hid HS2); (clear HS2); (obtain ⟨pn0, fp0, _⟩ := HS.out.box); (obtain ⟨nx0, ny0, nz0, nw0⟩ := pn0.cells); (have hnp0 : X1_1.heap.size ≠ w1.heap.size := World.new_ne _ _ nx0); (have hnq0 : w1.heap.size < X1_1.heap.size := pn0.lt); (obtain ⟨fx0, fy0, _, _⟩ := fp0.cells); (have hle0_1 : w.heap.size < X1_1.heap.size := fp0.lt); (have hnr0_0 : w1.heap.size ≠ w.heap.size := (by omega))));
         (clear hB1);
         (have hne0 : X1_1.heap.size ≠ w.heap.size := World.new_ne X1_1 _ fx0))
    | (go_at_call 96;
         (with_reducible refine Calls.mono (Ret.call HSU.out _ (by first | exact HS.out.g | exact HS.out.drew.g | exact (HS.out.drewN _).g | exact (HS.out.other _).g | exact (HS.out.drew.other _).g | exact (HS.out.other _).drew.g | exact ((HS.out.other _).other _).g | exact ((HS.out.drew.other _).other _).g | exact ((HS.out.other _).other _).drew.g | exact ((HS.out.drew.other _).drew.other _).g | exact ((HS.out.other _).drew.other _).g)) ?_);
         (rintro e X1_2 ⟨rfl, hB1⟩);
         (first
           | ((have HS2 : StL w X1_2 ([(w.heap.size, fn, fd)]) := (by first | exact HS.out.next hB1 | exact HS.out.next1 hB1 | exact HS.out.nextD hB1 | exact (HS.out.alloc _ _).next hB1 | exact (HS.out.drew.alloc _ _).next hB1 | exact (HS.out.alloc _ _).drew.next hB1 | exact (HS.out.alloc2 _ _ _ _).next hB1 | exact (HS.out.drew.alloc2 _ _ _ _).next hB1 | exact (HS.out.alloc2 _ _ _ _).drew.next hB1)); (replace HS := Lib.hid HS2); (clear HS2); (obtain ⟨fp0, _⟩ := HS.out.box); (obtain ⟨fx0, fy0, _, _⟩ := fp0.cells); (have hle0_2 : w.heap.size < X1_2.heap.size := fp0.lt))
           | ((have HS2 : StL w X1_2 ((X1_1.heap.size, ⟨#[]⟩, ⟨#[]⟩) :: [(w.heap.size, fn, fd)]) := (by first | exact HS.out.next hB1 | exact HS.out.next1 hB1 | exact HS.out.nextD hB1 | exact (HS.out.alloc _ _).next hB1 | exact (HS.out.drew.alloc _ _).next hB1 | exact (HS.out.alloc _ _).drew.next hB1 | exact (HS.out.alloc2 _ _ _ _).next hB1 | exact (HS.out.drew.alloc2 _ _ _ _).next hB1 | exact (HS.out.alloc2 _ _ _ _).drew.next hB1)); (replace HS := Lib.hid HS2); (clear HS2); (obtain ⟨pn0, fp0, _⟩ := HS.out.box); (obtain ⟨nx0, ny0, nz0, nw0⟩ := pn0.cells); (have hnp0 : X1_2.heap.size ≠ X1_1.heap.size := World.new_ne _ _ nx0); (have hnq0 : X1_1.heap.size < X1_2.heap.size := pn0.lt); (obtain ⟨fx0, fy0, _, _⟩ := fp0.cells); (have hle0_2 : w.heap.size < X1_2.heap.size := fp0.lt); (have hnr0_0 : X1_1.heap.size ≠ w.heap.size := (by omega)))
           | ((have HS2 : StL w X1_2 ((w1.heap.size, ⟨#[]⟩, ⟨#[]⟩) :: [(w.heap.size, fn, fd)]) := (by first | exact HS.out.next hB1 | exact HS.out.next1 hB1 | exact HS.out.nextD hB1 | exact (HS.out.alloc _ _).next hB1 | exact (HS.out.drew.alloc _ _).next hB1 | exact (HS.out.alloc _ _).drew.next hB1 | exact (HS.out.alloc2 _ _ _ _).next hB1 | exact (HS.out.drew.alloc2 _ _ _ _).next hB1 | exact (HS.out.alloc2 _ _ _ _).drew.next hB1)); (replace HS := Lib.hid HS2); (clear HS2); (obtain ⟨pn0, fp0, _⟩ := HS.out.box); (obtain ⟨nx0, ny0, nz0, nw0⟩ := pn0.cells); (have hnp0 : X1_2.heap.size ≠ w1.heap.size := World.new_ne _ _ nx0); (have hnq0 : w1.heap.size < X1_2.heap.size := pn0.lt); (obtain ⟨fx0, fy0, _, _⟩ := fp0.cells); (have hle0_2 : w.heap.size < X1_2.heap.size := fp0.lt); (have hnr0_0 : w1.heap.size ≠ w.heap.size := (by omega))));
         (clear hB1);
         (have hne0 : X1_2.heap.size ≠ w.heap.size := World.new_ne X1_2 _ fx0)))
    all_goals go_wp2_with fail
    all_goals go_meet
    all_goals refine ⟨_, rfl, ?_⟩
    all_goals first
      | with_reducible exact HS.out.alloc _ _
      | with_reducible exact StL.fill hG HS.out _ _
      | with_reducible exact (HS.out.alloc _ _).drew
      | with_reducible exact HS.out.drew.alloc _ _
      | with_reducible exact StL.fill hG HS.out.drew _ _
      | with_reducible exact (HS.out.drew.alloc _ _).drew
  clear HS hne0 hle0_0
  clear fp0 fx0 fy0
  obtain ⟨b1_0, rfl, hS⟩ := hcut
  obtain ⟨w2, hw⟩ : ∃ W, W = wc := ⟨_, rfl⟩
  rw [← hw] at hS
  rw [← hw]
  clear hw
  obtain ⟨fp0, fp1, _⟩ := hS.box
  obtain ⟨fx0, fy0, _, _⟩ := fp0.cells
  obtain ⟨fx1, fy1, _, _⟩ := fp1.cells
  go_wp2_with fail
  clear fp0 fx0 fy0 fp1 fx1 fy1
  refine Calls.mono (Ret.call HOZ.out _ hS.g) ?_
  rintro _ w3 ⟨rfl, hB⟩
  replace hS := hS.next hB
  clear hB
  go_upto_region 4 with fail
  obtain ⟨b4, hb4⟩ : ∃ b, b = w3.heap.size := ⟨_, rfl⟩
  obtain ⟨V4, hV4⟩ : ∃ V, V = w3.alloc (.cells #[.string ⟨#[]⟩, .string ⟨#[]⟩] 24) := ⟨_, rfl⟩
  have hT : StL w V4 [(b4, ⟨#[]⟩, ⟨#[]⟩), (b1_0, (cS D.1), (cD D.2)), (w.heap.size, fn, fd)] := by rw [hV4, hb4]; exact hS.alloc _ _
  rw [← hb4, ← hV4]
  clear hV4 hb4 hS
  have hS := hT
  clear hT
  obtain ⟨fp0, fp1, fp2, _⟩ := hS.box
  obtain ⟨fx0, fy0, _, _⟩ := fp0.cells
  obtain ⟨fx1, fy1, _, _⟩ := fp1.cells
  obtain ⟨fx2, fy2, _, _⟩ := fp2.cells
  go_wp2_with fail
  clear fp0 fx0 fy0 fp1 fx1 fy1 fp2 fx2 fy2
  refine Calls.mono (Ret.call HC0.out _ hS.g) ?_
  rintro _ w5 ⟨rfl, hB⟩
  replace hS := hS.next hB
  clear hB
  rw [HZ.out]
  obtain ⟨fp0, fp1, fp2, _⟩ := hS.box
  obtain ⟨fx0, fy0, _, _⟩ := fp0.cells
  obtain ⟨fx1, fy1, _, _⟩ := fp1.cells
  obtain ⟨fx2, fy2, _, _⟩ := fp2.cells
  go_wp2_with fail
  clear fp0 fx0 fy0 fp1 fx1 fy1 fp2 fx2 fy2
  refine Calls.mono (Ret.call HNX.out _ hS.g) ?_
  rintro _ w6 ⟨rfl, hB⟩
  replace hS := hS.next hB
  clear hB
  obtain ⟨fp0, fp1, fp2, _⟩ := hS.box
  obtain ⟨fx0, fy0, _, _⟩ := fp0.cells
  obtain ⟨fx1, fy1, _, _⟩ := fp1.cells
  obtain ⟨fx2, fy2, _, _⟩ := fp2.cells
  go_wp2_with fail
  clear fp0 fx0 fy0 fp1 fx1 fy1 fp2 fx2 fy2
  refine Calls.mono (Ret.call HHF.out _ hS.g) ?_
  rintro _ w7 ⟨rfl, hB⟩
  replace hS := hS.next hB
  clear hB
  go_upto_region 8 with fail
  obtain ⟨b8, hb8⟩ : ∃ b, b = w7.heap.size := ⟨_, rfl⟩
  obtain ⟨V8, hV8⟩ : ∃ V, V = w7.alloc (.cells #[.string ⟨#[49]⟩, .string ⟨#[50]⟩] 24) := ⟨_, rfl⟩
  have hT : StL w V8 [(b8, ⟨#[49]⟩, ⟨#[50]⟩), (b4, ⟨#[]⟩, ⟨#[]⟩), (b1_0, (cS D.1), (cD D.2)), (w.heap.size, fn, fd)] := by rw [hV8, hb8]; exact hS.alloc _ _
  rw [← hb8, ← hV8]
  clear hV8 hb8 hS
  have hS := hT
  clear hT
  obtain ⟨fp0, fp1, fp2, fp3, _⟩ := hS.box
  obtain ⟨fx0, fy0, _, _⟩ := fp0.cells
  obtain ⟨fx1, fy1, _, _⟩ := fp1.cells
  obtain ⟨fx2, fy2, _, _⟩ := fp2.cells
  obtain ⟨fx3, fy3, _, _⟩ := fp3.cells
  go_wp2_with fail
  clear fp0 fx0 fy0 fp1 fx1 fy1 fp2 fx2 fy2 fp3 fx3 fy3
  refine Calls.mono (Ret.call HCH.out _ hS.g) ?_
  rintro _ w9 ⟨rfl, hB⟩
  replace hS := hS.next hB
  clear hB
  obtain ⟨fp0, fp1, fp2, fp3, _⟩ := hS.box
  obtain ⟨fx0, fy0, _, _⟩ := fp0.cells
  obtain ⟨fx1, fy1, _, _⟩ := fp1.cells
  obtain ⟨fx2, fy2, _, _⟩ := fp2.cells
  obtain ⟨fx3, fy3, _, _⟩ := fp3.cells
  go_wp2_with fail
  clear fp0 fx0 fy0 fp1 fx1 fy1 fp2 fx2 fy2 fp3 fx3 fy3
  refine Calls.mono (Ret.call HCN.out _ hS.g) ?_
  rintro _ w10 ⟨rfl, hB⟩
  replace hS := hS.next hB
  clear hB
  have HWo := HW.out
  clear HW
  rcases HWo with ⟨rfl, h2, rfl⟩ | ⟨rfl, ⟨rfl, h2⟩, rfl⟩ | ⟨rfl, ⟨rfl, h2⟩, rfl⟩ | ⟨rfl, h2, rfl⟩ | ⟨rfl, h2, rfl⟩ | ⟨rfl, ⟨rfl, h2⟩, rfl⟩ | ⟨rfl, ⟨rfl, h2⟩, rfl⟩ | ⟨rfl, h2, rfl⟩ | ⟨rfl, h2, rfl⟩ | ⟨rfl, h2, rfl⟩ | ⟨rfl, h2, rfl⟩ | ⟨rfl, h2, rfl⟩ | ⟨rfl, _, rfl⟩ | ⟨rfl, _, rfl⟩
  · go_wp2_with fail
    go_ret
    exact ⟨rfl, hS.below⟩
  · have HV := Lib.hid (show decide (q % 2 = 0) = false from decide_eq_false (by omega))
    clear h2
    go_wp2_with fail
    refine (kEven (z := q) w10 HQS.out (vS_cS q)).mono ?_
    rintro _ _ ⟨rfl, rfl⟩
    rw [HV.out]
    go_wp2_with fail
    go_ret
    exact ⟨rfl, hS.below⟩
  · have HV := Lib.hid (show decide (q % 2 = 0) = true from decide_eq_true (by omega))
    clear h2
    go_wp2_with fail
    refine (kEven (z := q) w10 HQS.out (vS_cS q)).mono ?_
    rintro _ _ ⟨rfl, rfl⟩
    rw [HV.out]
    go_wp2_with fail
    go_ret
    exact ⟨rfl, hS.below⟩
  · have h3 : ¬ 0 < c := by omega
    have h4 : (c == 0) = false := by simp; omega
    go_wp2_with fail
    go_ret
    exact ⟨rfl, hS.below⟩
  · go_wp2_with fail
    go_ret
    exact ⟨rfl, hS.below⟩
  · have h5 : decide (cn < 0) = false := decide_eq_false (by omega)
    clear h2
    go_wp2_with fail
    go_ret
    exact ⟨rfl, hS.below⟩
  · go_wp2_with fail
    go_ret
    exact ⟨rfl, hS.below⟩
  · have h3 : ¬ 0 < c := by omega
    have h4 : (c == 0) = false := by simp; omega
    go_wp2_with fail
    go_ret
    exact ⟨rfl, hS.below⟩
  · go_wp2_with fail
    go_ret
    exact ⟨rfl, hS.below⟩
  · have h5 : decide (cn < 0) = false := decide_eq_false (by omega)
    clear h2
    go_wp2_with fail
    go_ret
    exact ⟨rfl, hS.below⟩
  · have h5 : decide (cn < 0) = false := decide_eq_false (by omega)
    clear h2
    go_wp2_with fail
    go_ret
    exact ⟨rfl, hS.below⟩
  · go_wp2_with fail
    go_ret
    exact ⟨rfl, hS.below⟩
  · go_wp2_with fail
    go_ret
    exact ⟨rfl, hS.below⟩
  · go_wp2_with fail
    go_ret
    exact ⟨rfl, hS.below⟩

end Go.Proofs.YtlonbfddhfacmaaGreatDoor

/- The reference implementation of layer 3: RoundTo, Round, Scale, Format: the walks. -/
namespace Go.Proofs.YtlonbfddhfacmaaGreatDoor
open Go.RowKit Fra

theorem kRoundTo_any {fn fd : ByteArray} {m z : Int} (hn : fn.size ≤ 300) (hd : fd.size ≤ 300) (h1 : 1 ≤ m) (h6 : m ≤ 6) (hz : rnd m (raw fn fd) = z) : Ret 52 #[.agg #[.string fn, .string fd], .int .i64 m] (.string (cS z)) := by
  by_cases h0 : rest (raw fn fd) = 0
  · exact kRoundTo_e hn hd h0 hz
  · exact kRoundTo_r hn hd h1 h6 h0 hz

set_option maxRecDepth 100000 in
set_option maxHeartbeats 16000000 in
theorem kRound_bad {fn fd : ByteArray} {m : Int} (hm : m < 1 ∨ 6 < m) : Ret 14 #[.agg #[.string fn, .string fd], .int .i64 m] (two ⟨#[]⟩ 7) := by
  intro w hG
  have HM := Lib.hid (okM_false hm)
  clear hm
  obtain ⟨W0, hW0⟩ : ∃ W0, W0 = w.alloc (.cells #[.string fn, .string fd] 24) := ⟨_, rfl⟩
  have hS : StL w W0 [(w.heap.size, fn, fd)] := by rw [hW0]; exact StL.one hG _ _
  go_enter Tryz.func14, Tryz.ntmps14
  go_upto_region 1 with fail
  rw [← hW0]
  clear hW0
  obtain ⟨fp0, _⟩ := hS.box
  obtain ⟨fx0, fy0, _, _⟩ := fp0.cells
  go_wp2_with fail
  clear fp0 fx0 fy0
  refine Calls.mono (kMode m W0) ?_
  rintro _ _ ⟨rfl, rfl⟩
  rw [HM.out]
  obtain ⟨fp0, _⟩ := hS.box
  obtain ⟨fx0, fy0, _, _⟩ := fp0.cells
  go_wp2_with fail
  go_ret2
  exact ⟨rfl, hS.below⟩

set_option maxRecDepth 100000 in
set_option maxHeartbeats 16000000 in
theorem kRound_ok {fn fd : ByteArray} {m z : Int} (hn : fn.size ≤ 300) (hd : fd.size ≤ 300) (h1 : 1 ≤ m) (h6 : m ≤ 6) (hz : rnd m (raw fn fd) = z) : Ret 14 #[.agg #[.string fn, .string fd], .int .i64 m] (two (cS z) 0) := by
  intro w hG
  have HM := Lib.hid (okM_true h1 h6)
  have HR := Lib.hid (kRoundTo_any hn hd h1 h6 hz)
  clear h1 h6 hz
  obtain ⟨W0, hW0⟩ : ∃ W0, W0 = w.alloc (.cells #[.string fn, .string fd] 24) := ⟨_, rfl⟩
  have hS : StL w W0 [(w.heap.size, fn, fd)] := by rw [hW0]; exact StL.one hG _ _
  go_enter Tryz.func14, Tryz.ntmps14
  go_upto_region 1 with fail
  rw [← hW0]
  clear hW0
  obtain ⟨fp0, _⟩ := hS.box
  obtain ⟨fx0, fy0, _, _⟩ := fp0.cells
  go_wp2_with fail
  clear fp0 fx0 fy0
  refine Calls.mono (kMode m W0) ?_
  rintro _ _ ⟨rfl, rfl⟩
  rw [HM.out]
  obtain ⟨fp0, _⟩ := hS.box
  obtain ⟨fx0, fy0, _, _⟩ := fp0.cells
  go_wp2_with fail
  clear fp0 fx0 fy0
  refine Calls.mono (Ret.call HR.out _ hS.g) ?_
  rintro _ w1 ⟨rfl, hB⟩
  replace hS := hS.next hB
  clear hB
  obtain ⟨fp0, _⟩ := hS.box
  obtain ⟨fx0, fy0, _, _⟩ := fp0.cells
  go_wp2_with fail
  go_ret2
  exact ⟨rfl, hS.below⟩

set_option maxRecDepth 100000 in
set_option maxHeartbeats 16000000 in
theorem kScale_range {fn fd : ByteArray} {k m : Int} (hk : okP k = false) : Ret 16 #[.agg #[.string fn, .string fd], .int .i64 k, .int .i64 m] (two ⟨#[]⟩ 2) := by
  intro w hG
  have HP := Lib.hid hk
  clear hk
  obtain ⟨W0, hW0⟩ : ∃ W0, W0 = w.alloc (.cells #[.string fn, .string fd] 24) := ⟨_, rfl⟩
  have hS : StL w W0 [(w.heap.size, fn, fd)] := by rw [hW0]; exact StL.one hG _ _
  go_enter Tryz.func16, Tryz.ntmps16
  go_upto_region 1 with fail
  rw [← hW0]
  clear hW0
  obtain ⟨fp0, _⟩ := hS.box
  obtain ⟨fx0, fy0, _, _⟩ := fp0.cells
  go_wp2_with fail
  clear fp0 fx0 fy0
  refine Calls.mono (kPlaces k W0) ?_
  rintro _ _ ⟨rfl, rfl⟩
  rw [HP.out]
  obtain ⟨fp0, _⟩ := hS.box
  obtain ⟨fx0, fy0, _, _⟩ := fp0.cells
  go_wp2_with fail
  go_ret2
  exact ⟨rfl, hS.below⟩

set_option maxRecDepth 100000 in
set_option maxHeartbeats 16000000 in
theorem kScale_bad {fn fd : ByteArray} {k m : Int} (hk : okP k = true) (hm : m < 1 ∨ 6 < m) : Ret 16 #[.agg #[.string fn, .string fd], .int .i64 k, .int .i64 m] (two ⟨#[]⟩ 7) := by
  intro w hG
  have HP := Lib.hid hk
  have HM := Lib.hid (okM_false hm)
  clear hk hm
  obtain ⟨W0, hW0⟩ : ∃ W0, W0 = w.alloc (.cells #[.string fn, .string fd] 24) := ⟨_, rfl⟩
  have hS : StL w W0 [(w.heap.size, fn, fd)] := by rw [hW0]; exact StL.one hG _ _
  go_enter Tryz.func16, Tryz.ntmps16
  go_upto_region 1 with fail
  rw [← hW0]
  clear hW0
  obtain ⟨fp0, _⟩ := hS.box
  obtain ⟨fx0, fy0, _, _⟩ := fp0.cells
  go_wp2_with fail
  clear fp0 fx0 fy0
  refine Calls.mono (kPlaces k W0) ?_
  rintro _ _ ⟨rfl, rfl⟩
  rw [HP.out]
  obtain ⟨fp0, _⟩ := hS.box
  obtain ⟨fx0, fy0, _, _⟩ := fp0.cells
  go_wp2_with fail
  clear fp0 fx0 fy0
  refine Calls.mono (kMode m W0) ?_
  rintro _ _ ⟨rfl, rfl⟩
  rw [HM.out]
  obtain ⟨fp0, _⟩ := hS.box
  obtain ⟨fx0, fy0, _, _⟩ := fp0.cells
  go_wp2_with fail
  go_ret2
  exact ⟨rfl, hS.below⟩

set_option maxRecDepth 100000 in
set_option maxHeartbeats 16000000 in
theorem kScale_ok {fn fd : ByteArray} {m z : Int} {p : Nat} (hn : fn.size ≤ 100) (hd : fd.size ≤ 100) (hp : p ≤ 12) (h1 : 1 ≤ m) (h6 : m ≤ 6) (hz : rnd m (mulP (raw fn fd) ((10 : Int) ^ p, 1)) = z) : Ret 16 #[.agg #[.string fn, .string fd], .int .i64 (p : Int), .int .i64 m] (two (cS z) 0) := by
  intro w hG
  obtain ⟨y, hy⟩ : ∃ y, mulP (raw fn fd) ((10 : Int) ^ p, 1) = y := ⟨_, rfl⟩
  have hts := tens_size p
  have hrt : raw (cS ((10 : Int) ^ p)) ⟨#[]⟩ = ((10 : Int) ^ p, 1) := by unfold raw; rw [vS_cS, vS_nil]; rfl
  have hcy : CapP (100 + (p + 1)) y := by rw [← hy]; exact CapP.mul (CapP.of_raw (by decide) hn hd) (tens_capP p) (raw_pos _ _) Int.one_pos
  have hyp : 0 < y.2 := by rw [← hy]; exact mulP_pos (y := ((10 : Int) ^ p, 1)) (raw_pos _ _) Int.one_pos
  have HP := Lib.hid (okP_true (n := (p : Int)) (by omega) (by omega))
  have HM := Lib.hid (okM_true h1 h6)
  have HPW := Lib.hid (show Ret 58 #[.int .i64 (p : Int)] (.string (cS ((10 : Int) ^ p))) from Ret.of_same fun W => kPower p W (by omega))
  have HOF := Lib.hid (show Ret 57 #[.string (cS ((10 : Int) ^ p))] (.agg #[.string (cS ((10 : Int) ^ p)), .string ⟨#[]⟩]) from fun W _ => qOf_any W (by omega) (vS_cS _))
  have HMU := Lib.hid (show Ret 56 #[.agg #[.string fn, .string fd], .agg #[.string (cS ((10 : Int) ^ p)), .string ⟨#[]⟩]] (.agg #[.string (cS y.1), .string (cD y.2)]) from fun W hW => by
    have h := qMul_any fn fd (cS ((10 : Int) ^ p)) ⟨#[]⟩ W hW (by omega) (by omega) (by omega) (by decide)
    rw [hrt, hy] at h
    exact h)
  have HR := Lib.hid (show Ret 52 #[.agg #[.string (cS y.1), .string (cD y.2)], .int .i64 m] (.string (cS z)) from kRoundTo_any (by have := cS_size hcy.1; omega) (by have := cD_size hcy.2; omega) h1 h6 (by rw [raw_can hyp, ← hy]; exact hz))
  clear hn hd hp h1 h6 hz hy hts hrt hcy hyp
  obtain ⟨W0, hW0⟩ : ∃ W0, W0 = w.alloc (.cells #[.string fn, .string fd] 24) := ⟨_, rfl⟩
  have hS : StL w W0 [(w.heap.size, fn, fd)] := by rw [hW0]; exact StL.one hG _ _
  go_enter Tryz.func16, Tryz.ntmps16
  go_upto_region 1 with fail
  rw [← hW0]
  clear hW0
  obtain ⟨fp0, _⟩ := hS.box
  obtain ⟨fx0, fy0, _, _⟩ := fp0.cells
  go_wp2_with fail
  clear fp0 fx0 fy0
  refine Calls.mono (kPlaces p W0) ?_
  rintro _ _ ⟨rfl, rfl⟩
  rw [HP.out]
  obtain ⟨fp0, _⟩ := hS.box
  obtain ⟨fx0, fy0, _, _⟩ := fp0.cells
  go_wp2_with fail
  clear fp0 fx0 fy0
  refine Calls.mono (kMode m W0) ?_
  rintro _ _ ⟨rfl, rfl⟩
  rw [HM.out]
  obtain ⟨fp0, _⟩ := hS.box
  obtain ⟨fx0, fy0, _, _⟩ := fp0.cells
  go_upto_region 5 with fail
  have HS := Lib.hid hS
  clear hS
  go_region_held3 (fun w' => w'.cell? ⟨w.heap.size, 0, none⟩ = some (.string fn) ∧ w'.cell? ⟨w.heap.size, 1, none⟩ = some (.string fd))
    (go_keep)
    (first
    | (go_at_call 58;
         (first
           | (with_reducible refine Calls.mono (Ret.call HPW.out _ (by first | exact HS.out.g | exact HS.out.drew.g | exact (HS.out.drewN _).g)) ?_));
         (rintro e WX ⟨rfl, hB1⟩);
         (have HS2 : StL w WX [(w.heap.size, fn, fd)] := (by first | exact HS.out.next hB1 | exact HS.out.next1 hB1 | exact HS.out.nextD hB1));
         (replace HS := Lib.hid HS2);
         (clear hB1 HS2);
         (obtain ⟨fp0, _⟩ := HS.out.box);
         (obtain ⟨fx0, fy0, _, _⟩ := fp0.cells))
    | (go_at_call 57;
         (first
           | (with_reducible refine Calls.mono (Ret.call HOF.out _ (by first | exact HS.out.g | exact HS.out.drew.g | exact (HS.out.drewN _).g)) ?_));
         (rintro e WX ⟨rfl, hB1⟩);
         (have HS2 : StL w WX [(w.heap.size, fn, fd)] := (by first | exact HS.out.next hB1 | exact HS.out.next1 hB1 | exact HS.out.nextD hB1));
         (replace HS := Lib.hid HS2);
         (clear hB1 HS2);
         (obtain ⟨fp0, _⟩ := HS.out.box);
         (obtain ⟨fx0, fy0, _, _⟩ := fp0.cells))
    | (go_at_call 56;
         (first
           | (with_reducible refine Calls.mono (Ret.call HMU.out _ (by first | exact HS.out.g | exact HS.out.drew.g | exact (HS.out.drewN _).g)) ?_));
         (rintro e WX ⟨rfl, hB1⟩);
         (have HS2 : StL w WX [(w.heap.size, fn, fd)] := (by first | exact HS.out.next hB1 | exact HS.out.next1 hB1 | exact HS.out.nextD hB1));
         (replace HS := Lib.hid HS2);
         (clear hB1 HS2);
         (obtain ⟨fp0, _⟩ := HS.out.box);
         (obtain ⟨fx0, fy0, _, _⟩ := fp0.cells))
    | (go_at_call 52;
         (first
           | (with_reducible refine Calls.mono (Ret.call HR.out _ (by first | exact HS.out.g | exact HS.out.drew.g | exact (HS.out.drewN _).g)) ?_));
         (rintro e WX ⟨rfl, hB1⟩);
         (have HS2 : StL w WX [(w.heap.size, fn, fd)] := (by first | exact HS.out.next hB1 | exact HS.out.next1 hB1 | exact HS.out.nextD hB1));
         (replace HS := Lib.hid HS2);
         (clear hB1 HS2);
         (obtain ⟨fp0, _⟩ := HS.out.box);
         (obtain ⟨fx0, fy0, _, _⟩ := fp0.cells)))
  all_goals go_wp2_with fail
  all_goals go_ret2
  all_goals exact ⟨rfl, (by first | exact HS.out.below | exact HS.out.drew.below | exact (HS.out.drewN _).below)⟩

set_option maxRecDepth 100000 in
set_option maxHeartbeats 16000000 in
theorem kFormat_err {fn fd u : ByteArray} {k m c : Int} (hS1 : Ret 16 #[.agg #[.string fn, .string fd], .int .i64 k, .int .i64 m] (two u c)) (hc : c ≠ 0) : Ret 18 #[.agg #[.string fn, .string fd], .int .i64 k, .int .i64 m] (two ⟨#[]⟩ c) := by
  intro w hG
  have HS1 := Lib.hid hS1
  have hc2 : (c == 0) = false := by simpa using hc
  clear hS1 hc
  obtain ⟨W0, hW0⟩ : ∃ W0, W0 = w.alloc (.cells #[.string fn, .string fd] 24) := ⟨_, rfl⟩
  have hS : StL w W0 [(w.heap.size, fn, fd)] := by rw [hW0]; exact StL.one hG _ _
  go_enter Tryz.func18, Tryz.ntmps18
  go_upto_region 1 with fail
  rw [← hW0]
  clear hW0
  obtain ⟨fp0, _⟩ := hS.box
  obtain ⟨fx0, fy0, _, _⟩ := fp0.cells
  go_wp2_with fail
  clear fp0 fx0 fy0
  refine Calls.mono (Ret.call HS1.out _ hS.g) ?_
  rintro _ w1 ⟨rfl, hB⟩
  replace hS := hS.next hB
  clear hB
  obtain ⟨fp0, _⟩ := hS.box
  obtain ⟨fx0, fy0, _, _⟩ := fp0.cells
  go_wp2_with fail
  go_ret2
  exact ⟨rfl, hS.below⟩

set_option maxRecDepth 100000 in
set_option maxHeartbeats 16000000 in
theorem kFormat_ok {fn fd : ByteArray} {m z : Int} {p : Nat} (hS1 : Ret 16 #[.agg #[.string fn, .string fd], .int .i64 (p : Int), .int .i64 m] (two (cS z) 0)) (hp : p ≤ 12) (hz : (cS z).size ≤ 1000) : Ret 18 #[.agg #[.string fn, .string fd], .int .i64 (p : Int), .int .i64 m] (two (txt z p) 0) := by
  intro w hG
  have HS1 := Lib.hid hS1
  have HUS := Lib.hid hz
  have HP := Lib.hid (show p ≤ 1000 by omega)
  clear hS1 hz hp
  obtain ⟨W0, hW0⟩ : ∃ W0, W0 = w.alloc (.cells #[.string fn, .string fd] 24) := ⟨_, rfl⟩
  have hS : StL w W0 [(w.heap.size, fn, fd)] := by rw [hW0]; exact StL.one hG _ _
  go_enter Tryz.func18, Tryz.ntmps18
  go_upto_region 1 with fail
  rw [← hW0]
  clear hW0
  obtain ⟨fp0, _⟩ := hS.box
  obtain ⟨fx0, fy0, _, _⟩ := fp0.cells
  go_wp2_with fail
  clear fp0 fx0 fy0
  refine Calls.mono (Ret.call HS1.out _ hS.g) ?_
  rintro _ w1 ⟨rfl, hB⟩
  replace hS := hS.next hB
  clear hB
  obtain ⟨fp0, _⟩ := hS.box
  obtain ⟨fx0, fy0, _, _⟩ := fp0.cells
  go_wp2_with fail
  clear fp0 fx0 fy0
  refine Calls.mono (kTextOf_any p _ HUS.out (vS_cS z) HP.out) ?_
  rintro _ w2 ⟨rfl, hB⟩
  replace hS := hS.next hB
  clear hB
  obtain ⟨fp0, _⟩ := hS.box
  obtain ⟨fx0, fy0, _, _⟩ := fp0.cells
  go_wp2_with fail
  go_ret2
  exact ⟨rfl, hS.below⟩

end Go.Proofs.YtlonbfddhfacmaaGreatDoor
