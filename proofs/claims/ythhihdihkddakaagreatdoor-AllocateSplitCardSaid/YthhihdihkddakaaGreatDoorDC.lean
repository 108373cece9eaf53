/- The program's layer 3: write: the walk. -/
import Derived.Test.YthhihdihkddakaaGreatDoorDB
namespace Go.Proofs.YthhihdihkddakaaGreatDoor
open Go.RowKit Fra

theorem cutP_itoa (z : Int) (w : World) :
    Calls Tryz.prog 133 #[.string (pS z), .string ⟨#[45]⟩] w fun e w' => e = .returned (.tuple #[.string ⟨(Lib.decDigits z.natAbs).toArray⟩, .bool (decide (z < 0))]) ∧ w = w' := by
  have h := Tryz.strings_CutPrefix (pS z) ⟨#[45]⟩ w
  have e := cut_shelf (pS z).data.toList
  rw [pS_list, Num.cut_itoa] at e
  have e1 := (Prod.mk.inj e).1
  have e2 := (Prod.mk.inj e).2
  rw [pS_list, show (ByteArray.mk #[45]).data.toList = [45] from rfl, ← e1, ← e2] at h
  exact h.mono fun _ _ k => ⟨k.1, k.2.symm⟩

/-- what write puts together -/
structure WriteAt (z : Int) (p : Nat) (D X A F : ByteArray) (k L : Nat) : Prop where
  eD : D = ⟨(Lib.decDigits z.natAbs).toArray⟩
  mx : max (0 : Int) ((p : Int) + 1 - D.size) = k
  eX : (ByteArray.mk (List.replicate k (48 : UInt8)).toArray) ++ D = X
  size : X.size = L + p
  pos : 0 < L
  small : X.size ≤ 200000
  dsmall : D.size ≤ 100001
  ksmall : k ≤ 100000
  eA : X.extract 0 L = A
  eF : X.extract L X.size = F
  AL : A.data.toList = Lib.decDigits (z.natAbs / 10 ^ p)
  FL : F.data.toList = Num.fixd p z.natAbs
  sA : A.size ≤ 200000
  sF : F.size ≤ 200000
theorem WriteAt.of (z : Int) (p : Nat) (hd : (Lib.decDigits z.natAbs).length ≤ 100001) (hp : p ≤ 65536) : ∃ D X A F k L, WriteAt z p D X A F k L := by
  obtain ⟨D, hD⟩ : ∃ D, D = ByteArray.mk (Lib.decDigits z.natAbs).toArray := ⟨_, rfl⟩
  have hDl : D.data.toList = Lib.decDigits z.natAbs := by rw [hD]
  have hDs : D.size = (Lib.decDigits z.natAbs).length := by rw [← size_toList, hDl]
  obtain ⟨k, hk⟩ : ∃ k, k = p + 1 - (Lib.decDigits z.natAbs).length := ⟨_, rfl⟩
  obtain ⟨X, hX⟩ : ∃ X, (ByteArray.mk (List.replicate k (48 : UInt8)).toArray) ++ D = X := ⟨_, rfl⟩
  have hXl : X.data.toList = Lib.decDigits (z.natAbs / 10 ^ p) ++ Num.fixd p z.natAbs := by
    rw [← Num.pad_print, ← hX, ByteArray.data_append, Array.toList_append, hDl, hk]
  have h1 := Num.at_point z.natAbs p
  rw [← hXl, size_toList] at h1
  obtain ⟨L, hL⟩ : ∃ L, L = (Lib.decDigits (z.natAbs / 10 ^ p)).length := ⟨_, rfl⟩
  have hsz : X.size = L + p := by omega
  have hXs : X.size = k + D.size := by
    rw [← hX, ByteArray.size_append]
    show (List.replicate k (48 : UInt8)).toArray.size + D.size = _
    simp
  have hA : (X.extract 0 L).data.toList = Lib.decDigits (z.natAbs / 10 ^ p) := by
    rw [ByteArray.data_extract, Array.toList_extract, List.extract_eq_take_drop, hXl, hL]
    simp
  have hF : (X.extract L X.size).data.toList = Num.fixd p z.natAbs := by
    rw [ByteArray.data_extract, Array.toList_extract, List.extract_eq_take_drop, hXl, hsz, hL]
    simp
    rw [List.take_of_length_le (by rw [Num.fixd_length]; exact Nat.le_refl _)]
  refine ⟨D, X, _, _, k, L, hD, by omega, hX, hsz, ?_, by omega, by omega, by omega, rfl, rfl, hA, hF, ?_, ?_⟩
  · rw [hL]; exact List.length_pos_iff.mpr (Num.decDigits_ne _)
  · rw [← size_toList, hA]; omega
  · rw [← size_toList, hF, Num.fixd_length]; omega

end Go.Proofs.YthhihdihkddakaaGreatDoor
