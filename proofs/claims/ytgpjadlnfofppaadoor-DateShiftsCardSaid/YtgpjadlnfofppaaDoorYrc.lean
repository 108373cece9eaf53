/- Layer 6, the reference implementation: digits, Print: the walks. -/
import Derived.Test.YtgpjadlnfofppaaDoorYwf
import Derived.Test.YtgpjadlnfofppaaDoorYrb
namespace Go.Proofs.YtgpjadlnfofppaaDoor
open Go.RowKit Dat

/-- the last k digits of a number -/
def lowd (n : Nat) : Nat → List UInt8
  | 0 => []
  | k + 1 => dgt (n / 10 ^ k) :: lowd n k
theorem lowd_length (n : Nat) : ∀ k, (lowd n k).length = k
  | 0 => rfl
  | k + 1 => by show (lowd n k).length + 1 = k + 1; rw [lowd_length n k]
theorem bytes_ext {a b : ByteArray} (h : a.data.toList = b.data.toList) : a = b := by
  apply ByteArray.ext
  exact Array.toList_inj.1 h
theorem cat_list (a b : ByteArray) : (a ++ b).data.toList = a.data.toList ++ b.data.toList := by rw [ByteArray.data_append, Array.toList_append]
set_option maxRecDepth 100000 in
set_option maxHeartbeats 8000000 in
theorem rDigits (n c : Nat) (R : ByteArray) (w : World) (hn : n ≤ 9999) (hc : c ≤ 4) (hR : R.data.toList = lowd n c) :
    Calls Tryd.prog 42 #[.int .i64 (n : Int), .int .i64 (c : Int)] w fun e w' => e = .returned (.string R) ∧ Below w.heap.size w w' := by
  obtain ⟨ci, hci⟩ : ∃ ci : Int, ci = c := ⟨_, rfl⟩
  obtain ⟨ni, hni⟩ : ∃ ni : Int, ni = n := ⟨_, rfl⟩
  rw [← hci, ← hni]
  have hci4 : ci ≤ 4 := by omega
  have hci0 : 0 ≤ ci := by omega
  have HC := Lib.hid hci
  have HN := Lib.hid hni
  have HR := Lib.hid hR
  clear hci hR
  go_enter Tryd.func42, Tryd.ntmps42
  go_wp2_with fail
  go_loopw [0, 5, 6] (fun nv sv iv wr => ∃ (k : Nat) (v : Int) (S : ByteArray), k ≤ c ∧ 0 ≤ v ∧ v ≤ 9999 ∧ nv = .int .i64 v ∧ Hid (v = ((n / 10 ^ k : Nat) : Int)) ∧ iv = .int .i64 (k : Int) ∧ sv = .string S ∧ Hid (S.data.toList = lowd n k) ∧ Hid (Below w.heap.size w wr)) (fun _ _ iv _ => c - (intOf iv).toNat)
  case atStart => exact ⟨0, ni, ⟨#[]⟩, Nat.zero_le _, by omega, by omega, rfl, Lib.hid (by rw [hni]; simp), rfl, rfl, Lib.hid rfl, Lib.hid (Below.refl _ _)⟩
  case round =>
    obtain ⟨k, v, S, hk, hv0, hv1, rfl, HV, rfl, rfl, HS, HB⟩ := hrel
    clear hni
    by_cases hlt : k < c
    · have hlt' : (k : Int) < ci := by have := HC.out; omega
      have hw1 : IntKind.i64.wrap ((k : Int) + 1) = (k : Int) + 1 := IntWalk.i64_in _ (by omega)
      have hss : S.size ≤ 4 := by rw [← size_toList, HS.out, lowd_length]; omega
      obtain ⟨D, hD⟩ : ∃ D : ByteArray, D = ⟨[dgt (n / 10 ^ k)].toArray⟩ := ⟨_, rfl⟩
      have hds : D.size = 1 := by rw [hD]; rfl
      have hcv := run_convert_bytes_back (P := Tryd.prog) (wr.alloc (.cells #[.int .u8 (48 + v % 10)] 5)) 63 9 5 ⟨wr.heap.size, 0, none⟩ 1 [dgt (n / 10 ^ k)] Tryd.underlying63 Tryd.underlying5 Tryd.underlying9 (fun j hj => by
        obtain rfl : j = 0 := by simpa using hj
        show (wr.alloc (.cells #[.int .u8 (48 + v % 10)] 5 (0, 0))).cell? ⟨wr.heap.size, 0, none⟩ = _
        rw [World.cell?_alloc_mark]
        rw [show (([dgt (n / 10 ^ k)])[0].toNat : Int) = 48 + v % 10 by show ((dgt (n / 10 ^ k)).toNat : Int) = _; rw [dgt_int, HV.out]]
        rfl)
      rw [← hD] at hcv
      change (convert 63 9 (.slice (some ⟨wr.heap.size, 0, none⟩) 1 1)).run _ _ = _ at hcv
      obtain ⟨S2, hS2⟩ : ∃ S2, S2 = D ++ S := ⟨_, rfl⟩
      have HS2 := Lib.hid (show S2.data.toList = lowd n (k + 1) by rw [hS2, cat_list, hD, HS.out]; rfl)
      have HV2 := Lib.hid (show v / 10 = ((n / 10 ^ (k + 1) : Nat) : Int) by rw [HV.out, Nat.pow_succ, ← Nat.div_div_eq_div_mul]; omega)
      have HB2 := Lib.hid (show Below w.heap.size w (wr.alloc (.cells #[.int .u8 (48 + v % 10)] 5)) from HB.out.alloc HB.out.size _)
      have hov : ¬ 9223372036854775807 < D.size + S.size := by omega
      have HSS := Lib.hid hS2
      clear hD hds HV HS HB hS2
      go_wp2_with fail
      go_roundw
      case rel => exact ⟨k + 1, v / 10, S2, by omega, by omega, by omega, rfl, HV2, by simp, by rw [HSS.out], HS2, HB2⟩
      case measure => simp [intOf]; omega
    · have hlt' : ¬ (k : Int) < ci := by have := HC.out; omega
      have HE := Lib.hid (show S = R from bytes_ext (by rw [HS.out, HR.out, show k = c by omega]))
      go_wp2_with fail
      go_ret
      exact ⟨by rw [← HE.out]; rfl, HB.out⟩

/-- the text of a date, from its digits -/
theorem txt_low (y m d : Nat) : txt y m d = (((lowd y 4 ++ [45]) ++ lowd m 2) ++ [45]) ++ lowd d 2 := by
  unfold txt
  simp [lowd]
set_option maxRecDepth 100000 in
set_option maxHeartbeats 8000000 in
theorem rPrint (d : Int) (t : ByteArray) (e : Int) (w : World) (h : printR d = (t, e)) :
    Calls Tryd.prog 28 #[.int .i64 d] w fun r w' => r = .returned (.tuple #[.string t, .int .i64 e]) ∧ Below w.heap.size w w' := by
  unfold printR at h
  cases hd : okD d with
  | false =>
    rw [hd, if_neg (by decide)] at h
    have HV := Lib.hid (rParts d 0 0 0 13 w (partsR_bad hd))
    obtain ⟨rfl, rfl⟩ := Prod.mk.inj h
    clear h hd
    go_enter Tryd.func28, Tryd.ntmps28
    go_wp2_with fail
    refine (HV.out).mono ?_
    rintro _ _ ⟨rfl, rfl⟩
    go_wp2_with fail
    go_ret2
    exact ⟨rfl, Below.refl _ _⟩
  | true =>
    rw [hd, if_pos rfl] at h
    obtain ⟨h1, h2⟩ := Prod.mk.inj h
    subst h2
    obtain ⟨_, hn⟩ := ix_is hd
    have HV := Lib.hid (rParts d (yr (ix d)) (mn (ix d)) (dy (ix d)) 0 w (partsR_ok hd rfl rfl rfl))
    have g1 := yr_low (ix d)
    have g2 := yr_high hn
    have g3 := mn_le (ix d)
    have g4 := dy_le (ix d)
    have g5 := mlen_high (yr (ix d)) (mn (ix d))
    obtain ⟨A, hA⟩ : ∃ A : ByteArray, A = ⟨(lowd (yr (ix d)) 4).toArray⟩ := ⟨_, rfl⟩
    obtain ⟨B, hB⟩ : ∃ A : ByteArray, A = ⟨(lowd (mn (ix d)) 2).toArray⟩ := ⟨_, rfl⟩
    obtain ⟨C, hC⟩ : ∃ A : ByteArray, A = ⟨(lowd (dy (ix d)) 2).toArray⟩ := ⟨_, rfl⟩
    have hAs : A.size = 4 := by rw [← size_toList, hA]; exact lowd_length _ _
    have hBs : B.size = 2 := by rw [← size_toList, hB]; exact lowd_length _ _
    have hCs : C.size = 2 := by rw [← size_toList, hC]; exact lowd_length _ _
    have H1 := Lib.hid (fun w => rDigits (yr (ix d)) 4 A w (by omega) (by omega) (by rw [hA]))
    have H2 := Lib.hid (fun w => rDigits (mn (ix d)) 2 B w (by omega) (by omega) (by rw [hB]))
    have H3 := Lib.hid (fun w => rDigits (dy (ix d)) 2 C w (by omega) (by omega) (by rw [hC]))
    have HR := Lib.hid (show t = (((A ++ ⟨#[45]⟩) ++ B) ++ ⟨#[45]⟩) ++ C from bytes_ext (by
      rw [← h1, cat_list, cat_list, cat_list, cat_list, hA, hB, hC]
      show txt _ _ _ = _
      rw [txt_low]))
    obtain ⟨Y, hY⟩ : ∃ Y : Int, Y = yr (ix d) := ⟨_, rfl⟩
    obtain ⟨M, hM⟩ : ∃ M : Int, M = mn (ix d) := ⟨_, rfl⟩
    obtain ⟨O, hO⟩ : ∃ O : Int, O = dy (ix d) := ⟨_, rfl⟩
    rw [← hY] at HV H1
    rw [← hM] at HV H2
    rw [← hO] at HV H3
    have z45 : (ByteArray.mk #[45]).size = 1 := rfl
    obtain ⟨h45, e45⟩ : ∃ h : ByteArray, h = ⟨#[45]⟩ := ⟨_, rfl⟩
    rw [← e45] at HR z45
    obtain ⟨A1, hA1⟩ : ∃ X, A ++ h45 = X := ⟨_, rfl⟩
    obtain ⟨A2, hA2⟩ : ∃ X, A1 ++ B = X := ⟨_, rfl⟩
    obtain ⟨A3, hA3⟩ : ∃ X, A2 ++ h45 = X := ⟨_, rfl⟩
    obtain ⟨A4, hA4⟩ : ∃ X, A3 ++ C = X := ⟨_, rfl⟩
    rw [hA1, hA2, hA3, hA4] at HR
    have s1 : A1.size = 5 := by rw [← hA1, ByteArray.size_append]; omega
    have s2 : A2.size = 7 := by rw [← hA2, ByteArray.size_append]; omega
    have s3 : A3.size = 8 := by rw [← hA3, ByteArray.size_append]; omega
    have o1 : ¬ 9223372036854775807 < A.size + h45.size := by omega
    have o2 : ¬ 9223372036854775807 < A1.size + B.size := by omega
    have o3 : ¬ 9223372036854775807 < A2.size + h45.size := by omega
    have o4 : ¬ 9223372036854775807 < A3.size + C.size := by omega
    rw [e45] at o1 o3 hA1 hA3
    clear h h1 hd hn g1 g2 g3 g4 g5 hA hB hC hAs hBs hCs hY hM hO s1 s2 s3 z45 e45
    go_enter Tryd.func28, Tryd.ntmps28
    go_wp2_with fail
    refine (HV.out).mono ?_
    rintro _ _ ⟨rfl, rfl⟩
    go_wp2_with fail
    refine (H1.out _).mono ?_
    rintro _ w1 ⟨rfl, hb1⟩
    have HB1 := Lib.hid hb1
    clear hb1
    go_wp2_with fail
    refine (H2.out _).mono ?_
    rintro _ w2 ⟨rfl, hb2⟩
    have HB2 := Lib.hid (HB1.out.trans (hb2.mono HB1.out.size))
    clear hb2 HB1
    go_wp2_with fail
    refine (H3.out _).mono ?_
    rintro _ w3 ⟨rfl, hb3⟩
    have HB3 := Lib.hid (HB2.out.trans (hb3.mono HB2.out.size))
    clear hb3 HB2
    go_wp2_with fail
    go_ret2
    exact ⟨by rw [HR.out]; rfl, HB3.out⟩

end Go.Proofs.YtgpjadlnfofppaaDoor
