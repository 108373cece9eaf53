/- Layer 6, the program: the digits of a text (read's closure), read, Parse: the walks. -/
import Derived.Test.YtgpjadlnfofppaaDoorYwe
import Derived.RangeFuncBox
import Derived.Laws.IdiomStrings
namespace Go.Proofs.YtgpjadlnfofppaaDoor
open Go.RowKit Dat

/-- the number that bytes are read as; are they digits? -/
def numI (l : List UInt8) : Int := l.foldl (fun n c => 10 * n + (c.toNat : Int) - 48) 0
def isD (c : UInt8) : Bool := decide (48 ≤ (c.toNat : Int) ∧ (c.toNat : Int) ≤ 57)
def allD (l : List UInt8) : Bool := l.all isD
theorem numI_snoc (l : List UInt8) (c : UInt8) : numI (l ++ [c]) = 10 * numI l + (c.toNat : Int) - 48 := by unfold numI; rw [List.foldl_append]; rfl
theorem allD_snoc (l : List UInt8) (c : UInt8) : allD (l ++ [c]) = (allD l && isD c) := by unfold allD; rw [List.all_append]; simp
theorem take_snoc (s : ByteArray) (k : Nat) (h : k < s.size) : s.data.toList.take (k + 1) = s.data.toList.take k ++ [s.data[k]] := by
  rw [List.take_succ_eq_append_getElem (by simpa using h)]; rfl
theorem numI_bound : ∀ (k : Nat) (l : List UInt8), l.length = k → -6 * (10 ^ k - 1) ≤ numI l ∧ numI l ≤ 23 * (10 ^ k - 1)
  | 0, l, h => by
    have : l = [] := List.length_eq_zero_iff.1 h
    subst this
    decide
  | k + 1, l, h => by
    obtain ⟨i, c, rfl⟩ : ∃ i c, l = i ++ [c] := ⟨l.dropLast, l.getLast (by intro e; rw [e] at h; simp at h), (List.dropLast_concat_getLast _).symm⟩
    have ih := numI_bound k i (by simpa using h)
    have hc : c.toNat < 256 := c.toNat_lt
    rw [numI_snoc, Int.pow_succ]
    omega
theorem numI_small {l : List UInt8} (h : l.length ≤ 4) : -60000 ≤ numI l ∧ numI l ≤ 230000 := by
  have hb := numI_bound l.length l rfl
  have : l.length = 0 ∨ l.length = 1 ∨ l.length = 2 ∨ l.length = 3 ∨ l.length = 4 := by omega
  rcases this with e | e | e | e | e <;> rw [e] at hb <;> simp at hb <;> omega

/-- what the closure leaves -/
def NumP (l : List UInt8) (b : Bool) (s : ByteArray) (S F B : Nat) (w : World) (e : Ending) (w' : World) : Prop :=
  e = .returned (.int .i64 (numI l)) ∧ Boxed w' F 4 (.bool (b && allD l)) ∧ Boxed w' S 9 (.string s) ∧ Below B w w'
set_option maxRecDepth 100000 in
set_option maxHeartbeats 8000000 in
theorem pNumber (s X : ByteArray) (a n : Nat) (b : Bool) (S F B : Nat) (w : World) (hs : s.size ≤ 100) (han : a + n ≤ s.size) (hn : n ≤ 4) (hX : s.extract a (a + n) = X) (hXs : X.size = n)
    (hS : Boxed w S 9 (.string s)) (hF : Boxed w F 4 (.bool b)) (hSF : S ≠ F) (hBF : B ≤ F) (hBw : B ≤ w.heap.size) :
    Calls Tryd.prog 49 #[.int .i64 (a : Int), .int .i64 (n : Int), .pointer (some ⟨S, 0, none⟩), .pointer (some ⟨F, 0, none⟩)] w (NumP X.data.toList b s S F B w) := by
  have hcv := fun w s => run_bytes_of_string (P := Tryd.prog) w 9 63 5 s Tryd.underlying9 Tryd.underlying63 Tryd.underlying5
  have HS := Lib.hid hS
  have HF := Lib.hid hF
  have hsc := hS.cell
  have HX := Lib.hid hX
  have HXS := Lib.hid hXs
  clear hS hF hXs hX
  unfold NumP
  go_enter Tryd.func49, Tryd.ntmps49
  go_wp2_with fail
  generalize grownCap w n 0 5 = cp
  rw [HX.out]
  obtain ⟨K, hK⟩ : ∃ K, w.heap.size = K := ⟨_, rfl⟩
  obtain ⟨V, hV⟩ : ∃ V, V = (w.alloc (.cells (bytesRow X cp) 5 ((bytesRow X cp).size, (bytesRow X cp).size + 1))).drew := ⟨_, rfl⟩
  have hFK : F ≠ K := by have := HF.out.lt; omega
  have HVF := Lib.hid (show Boxed V F 4 (.bool b) by rw [hV]; exact HF.out.alloc _)
  have HVS := Lib.hid (show Boxed V S 9 (.string s) by rw [hV]; exact HS.out.alloc _)
  have HVB := Lib.hid (show Below B w V by rw [hV]; exact ((Below.refl B w).alloc hBw _).drew)
  have HVC := Lib.hid (show ∀ j (hj : j < n), V.cell? ⟨K, j, none⟩ = some (.int .u8 ((X.data[j]'(by have := HXS.out; simpa using (by omega : j < X.size))).toNat : Int)) by
    intro j hj
    rw [hV, ← hK]
    show (w.alloc _).cell? _ = _
    rw [World.cell?_alloc_mark]
    exact bytesRow_at X cp j (by have := HXS.out; simpa using (by omega : j < X.size)))
  rw [← hV, hK]
  clear hV hK HF HS hsc hcv
  have hnb : ∀ k, k ≤ n → -60000 ≤ numI (X.data.toList.take k) ∧ numI (X.data.toList.take k) ≤ 230000 := fun k hk => numI_small (by rw [List.length_take]; omega)
  have HNB := Lib.hid hnb
  clear hnb
  go_loopw [7, 18] (fun nv iv wr => ∃ (k : Nat) (v : Int) (bb : Bool), k ≤ n ∧ nv = .int .i64 v ∧ iv = .int .i64 (k : Int) ∧ Hid (v = numI (X.data.toList.take k)) ∧ Hid (Boxed wr F 4 (.bool bb)) ∧ Hid (bb = (b && allD (X.data.toList.take k))) ∧ Hid (Boxed wr S 9 (.string s)) ∧ Hid (∀ j (hj : j < n), wr.cell? ⟨K, j, none⟩ = some (.int .u8 ((X.data[j]'(by have := HXS.out; simpa using (by omega : j < X.size))).toNat : Int))) ∧ Hid (Below B w wr)) (fun _ iv _ => n - (intOf iv).toNat)
  case atStart => exact ⟨0, 0, b, Nat.zero_le _, rfl, rfl, Lib.hid rfl, HVF, Lib.hid (by cases b <;> rfl), HVS, HVC, HVB⟩
  case round =>
    clear HVF HVS HVC HVB
    obtain ⟨k, v, bb, hk, rfl, rfl, HV, HBF, HBB, HBS, HC, HB⟩ := hrel
    have hvb := HNB.out k hk
    rw [← HV.out] at hvb
    obtain ⟨hv1, hv2⟩ := hvb
    by_cases hlt : k < n
    · have hltX : k < X.size := by have := HXS.out; omega
      have hcell := HC.out k hlt
      obtain ⟨c, hc⟩ : ∃ c, X.data[k]'hltX = c := ⟨_, rfl⟩
      rw [hc] at hcell
      have hts := take_snoc X k hltX
      rw [hc] at hts
      obtain ⟨cv, hcv⟩ : ∃ cv : Int, cv = c.toNat := ⟨_, rfl⟩
      have hc0 : 0 ≤ cv := by omega
      have hc1 : cv ≤ 255 := by have := c.toNat_lt; omega
      rw [← hcv] at hcell
      have HV2 := Lib.hid (show 10 * v + cv - 48 = numI (X.data.toList.take (k + 1)) by rw [hts, numI_snoc, HV.out, hcv])
      have HBB2 := Lib.hid (show (bb && decide (48 ≤ cv ∧ cv ≤ 57)) = (b && allD (X.data.toList.take (k + 1))) by rw [hts, allD_snoc, HBB.out, hcv, Bool.and_assoc]; rfl)
      have hfc := HBF.out.cell
      have hff := HBF.out.frozen
      have hw1 : IntKind.i64.wrap ((k : Int) + 1) = (k : Int) + 1 := IntWalk.i64_in _ (by omega)
      have hlt' : (k : Int) < (n : Int) := by omega
      have HNX := Lib.hid (fun (q : Bool) (hq : q = (b && allD (X.data.toList.take (k + 1)))) => show Hid (Boxed (wr.setCell ⟨F, 0, none⟩ (.bool q)) F 4 (.bool q)) ∧ Hid (q = (b && allD (X.data.toList.take (k + 1)))) ∧ Hid (Boxed (wr.setCell ⟨F, 0, none⟩ (.bool q)) S 9 (.string s)) ∧ Hid (∀ j (hj : j < n), (wr.setCell ⟨F, 0, none⟩ (.bool q)).cell? ⟨K, j, none⟩ = some (.int .u8 ((X.data[j]'(by have := HXS.out; simpa using (by omega : j < X.size))).toNat : Int))) ∧ Hid (Below B w (wr.setCell ⟨F, 0, none⟩ (.bool q))) from
        ⟨Lib.hid (HBF.out.set _), Lib.hid hq, Lib.hid (HBS.out.kept (grownBy_setCell' _ _ _) (by simpa using hSF)), Lib.hid (fun j hj => (World.cell?_setCell_other _ _ _ _ (fun e => hFK (congrArg Addr.block e))).trans (HC.out j hj)), Lib.hid (HB.out.setCell (p := ⟨F, 0, none⟩) hBF _)⟩)
      clear hc hts hcv HV HBB HBF HBS HC HB
      cases bb with
      | false =>
        have HQ := Lib.hid (HNX.out false (by rw [← HBB2.out]; rfl))
        clear HBB2 HNX
        go_wp2_with fail
        go_roundw
        case rel => exact ⟨k + 1, 10 * v + cv - 48, false, by omega, rfl, by simp, HV2, HQ.out.1, HQ.out.2.1, HQ.out.2.2.1, HQ.out.2.2.2.1, HQ.out.2.2.2.2⟩
        case measure => simp [intOf]; omega
      | true =>
        by_cases c1 : 48 ≤ cv
        · by_cases c2 : cv ≤ 57
          · have HQ := Lib.hid (HNX.out true (by rw [← HBB2.out, decide_eq_true ⟨c1, c2⟩]; rfl))
            clear HBB2 HNX
            go_wp2_with fail
            go_roundw
            case rel => exact ⟨k + 1, 10 * v + cv - 48, true, by omega, rfl, by simp, HV2, HQ.out.1, HQ.out.2.1, HQ.out.2.2.1, HQ.out.2.2.2.1, HQ.out.2.2.2.2⟩
            case measure => simp [intOf]; omega
          · have HQ := Lib.hid (HNX.out false (by rw [← HBB2.out, decide_eq_false (fun h => c2 h.2)]; rfl))
            clear HBB2 HNX
            go_wp2_with fail
            go_roundw
            case rel => exact ⟨k + 1, 10 * v + cv - 48, false, by omega, rfl, by simp, HV2, HQ.out.1, HQ.out.2.1, HQ.out.2.2.1, HQ.out.2.2.2.1, HQ.out.2.2.2.2⟩
            case measure => simp [intOf]; omega
        · have HQ := Lib.hid (HNX.out false (by rw [← HBB2.out, decide_eq_false (fun h => c1 h.1)]; rfl))
          clear HBB2 HNX
          go_wp2_with fail
          go_roundw
          case rel => exact ⟨k + 1, 10 * v + cv - 48, false, by omega, rfl, by simp, HV2, HQ.out.1, HQ.out.2.1, HQ.out.2.2.1, HQ.out.2.2.2.1, HQ.out.2.2.2.2⟩
          case measure => simp [intOf]; omega
    · obtain rfl : k = n := by omega
      have hl : X.data.toList.take k = X.data.toList := List.take_of_length_le (by rw [size_toList, HXS.out]; exact Nat.le_refl _)
      rw [hl] at HV HBB
      have HL := Lib.hid hl
      clear hl
      go_wp2_with fail
      go_ret
      exact ⟨ret_int HV.out, by rw [← HBB.out]; exact HBF.out, HBS.out, HB.out⟩

end Go.Proofs.YtgpjadlnfofppaaDoor
