/- slices.IndexFunc and ContainsFunc with the predicates of layer 4: the walks. -/
import Derived.Test.YthhihdihkddakaaGreatDoorZShN
import Derived.Deep.LoopGhost
import Derived.Deep.RegionHeld3
import Derived.LoopIn
import Derived.LoopNIn
import Derived.OwnWalkIn
import Derived.RangeFuncBound
import Derived.RangeFuncCalls
import Derived.RangeFuncLeaves
import Derived.RangeFuncNested
import Derived.Shelf.Abstract
import Derived.Shelf.RegionOpen
import Derived.TacticsInMore
import Derived.WalkKit
namespace Go.Proofs.YthhihdihkddakaaGreatDoor
open Go.RowKit

set_option maxRecDepth 100000 in
set_option maxHeartbeats 1000000 in
/-- slices.IndexFunc(s, isNegative) -/
theorem idxNeg (w : World) (hG : Ground w) (xa : Option Addr) (n cap : Nat) (s : Nat → ByteArray) (hr : Rs w xa n s) (hlim : n ≤ 100000) (P : Nat → Bool) (hp : ∀ i, i < n → ∀ W, Ground W → Calls Tryz.prog 102 #[.string (s i)] W fun e W' => e = .returned (.bool (P i)) ∧ Below W.heap.size W W') :
    Calls Tryz.prog 100 #[.slice xa n cap, .func (.func 102) #[] #[]] w fun e w' => (∃ r : Int, e = .returned (.int .i64 r) ∧ decide (0 ≤ r) = (List.range n).any P) ∧ Below w.heap.size w w' := by
  go_enter Tryz.func100, Tryz.ntmps100
  go_wp2_with fail
  go_loopw [8] (fun iv wr => ∃ k : Nat, k ≤ n ∧ iv = .int .i64 (k : Int) ∧ (List.range k).any P = false ∧ Below w.heap.size w wr) (fun iv _ => n - (intOf iv).toNat)
  case atStart => exact ⟨0, Nat.zero_le _, rfl, rfl, Below.refl _ _⟩
  case round =>
    obtain ⟨k, hk, rfl, hl, hB⟩ := hrel
    have HL := Lib.hid hl
    clear hl
    by_cases hlt : k < n
    · have hr1 := hr.belowAt hB (Nat.le_refl _)
      obtain ⟨b, o, rfl, hb, hck⟩ := Rs.at hr1 hlt
      have HP := Lib.hid (hp k hlt wr (hG.below hB))
      obtain ⟨sk, hsk⟩ : ∃ sk, s k = sk := ⟨_, rfl⟩
      rw [hsk] at hck HP
      clear hsk
      have HB := Lib.hid hB
      clear hr hr1 hp hB
      go_wp2_with fail
      refine HP.out.mono ?_
      rintro e w' ⟨rfl, hB1⟩
      have hB2 := HB.out.trans (hB1.mono HB.out.size)
      have hsu : (List.range (k + 1)).any P = ((List.range k).any P || P k) := by rw [List.range_succ, List.any_append]; simp
      cases hpk : P k with
      | true =>
        have HT := Lib.hid (show decide ((0 : Int) ≤ (k : Int)) = (List.range n).any P by
          rw [decide_eq_true (by omega)]
          exact (List.any_eq_true.2 ⟨k, List.mem_range.2 hlt, hpk⟩).symm)
        clear hsu hpk hB1
        go_wp2_with fail
        go_ret
        exact ⟨⟨_, rfl, HT.out⟩, hB2⟩
      | false =>
        have HT := Lib.hid (show (List.range (k + 1)).any P = false by rw [hsu, HL.out, hpk]; rfl)
        clear hsu hpk hB1
        go_wp2_with fail
        go_roundw
        case rel => exact ⟨k + 1, by omega, by simp, HT.out, hB2⟩
        case measure => simp [intOf]; omega
    · obtain rfl : k = n := by omega
      clear hr hp
      go_wp2_with fail
      go_ret
      exact ⟨⟨-1, rfl, by rw [HL.out]; rfl⟩, hB⟩

set_option maxRecDepth 100000 in
set_option maxHeartbeats 1000000 in
theorem hasNeg (w : World) (hG : Ground w) (xa : Option Addr) (n cap : Nat) (s : Nat → ByteArray) (hr : Rs w xa n s) (hlim : n ≤ 100000) (P : Nat → Bool) (hp : ∀ i, i < n → ∀ W, Ground W → Calls Tryz.prog 102 #[.string (s i)] W fun e W' => e = .returned (.bool (P i)) ∧ Below W.heap.size W W') :
    Calls Tryz.prog 47 #[.slice xa n cap, .func (.func 102) #[] #[]] w fun e w' => e = .returned (.bool ((List.range n).any P)) ∧ Below w.heap.size w w' := by
  have HI := Lib.hid (idxNeg w hG xa n cap s hr hlim P hp)
  clear hp hr
  go_enter Tryz.func47, Tryz.ntmps47
  go_wp2_with fail
  refine HI.out.mono ?_
  rintro _ w1 ⟨⟨r, rfl, hd⟩, hB⟩
  have HD := Lib.hid hd
  clear hd
  go_wp2_with fail
  go_ret
  exact ⟨by rw [← HD.out]; simp, hB⟩

set_option maxRecDepth 100000 in
set_option maxHeartbeats 1000000 in
/-- slices.IndexFunc(s, a string of over 30 bytes) -/
theorem idxGreat (w : World) (hG : Ground w) (xa : Option Addr) (n cap : Nat) (s : Nat → ByteArray) (hr : Rs w xa n s) (hlim : n ≤ 100000) (P : Nat → Bool) (hp : ∀ i, i < n → ∀ W, Ground W → Calls Tryz.prog 48 #[.string (s i)] W fun e W' => e = .returned (.bool (P i)) ∧ Below W.heap.size W W') :
    Calls Tryz.prog 100 #[.slice xa n cap, .func (.func 48) #[] #[]] w fun e w' => (∃ r : Int, e = .returned (.int .i64 r) ∧ decide (0 ≤ r) = (List.range n).any P) ∧ Below w.heap.size w w' := by
  go_enter Tryz.func100, Tryz.ntmps100
  go_wp2_with fail
  go_loopw [8] (fun iv wr => ∃ k : Nat, k ≤ n ∧ iv = .int .i64 (k : Int) ∧ (List.range k).any P = false ∧ Below w.heap.size w wr) (fun iv _ => n - (intOf iv).toNat)
  case atStart => exact ⟨0, Nat.zero_le _, rfl, rfl, Below.refl _ _⟩
  case round =>
    obtain ⟨k, hk, rfl, hl, hB⟩ := hrel
    have HL := Lib.hid hl
    clear hl
    by_cases hlt : k < n
    · have hr1 := hr.belowAt hB (Nat.le_refl _)
      obtain ⟨b, o, rfl, hb, hck⟩ := Rs.at hr1 hlt
      have HP := Lib.hid (hp k hlt wr (hG.below hB))
      obtain ⟨sk, hsk⟩ : ∃ sk, s k = sk := ⟨_, rfl⟩
      rw [hsk] at hck HP
      clear hsk
      have HB := Lib.hid hB
      clear hr hr1 hp hB
      go_wp2_with fail
      refine HP.out.mono ?_
      rintro e w' ⟨rfl, hB1⟩
      have hB2 := HB.out.trans (hB1.mono HB.out.size)
      have hsu : (List.range (k + 1)).any P = ((List.range k).any P || P k) := by rw [List.range_succ, List.any_append]; simp
      cases hpk : P k with
      | true =>
        have HT := Lib.hid (show decide ((0 : Int) ≤ (k : Int)) = (List.range n).any P by
          rw [decide_eq_true (by omega)]
          exact (List.any_eq_true.2 ⟨k, List.mem_range.2 hlt, hpk⟩).symm)
        clear hsu hpk hB1
        go_wp2_with fail
        go_ret
        exact ⟨⟨_, rfl, HT.out⟩, hB2⟩
      | false =>
        have HT := Lib.hid (show (List.range (k + 1)).any P = false by rw [hsu, HL.out, hpk]; rfl)
        clear hsu hpk hB1
        go_wp2_with fail
        go_roundw
        case rel => exact ⟨k + 1, by omega, by simp, HT.out, hB2⟩
        case measure => simp [intOf]; omega
    · obtain rfl : k = n := by omega
      clear hr hp
      go_wp2_with fail
      go_ret
      exact ⟨⟨-1, rfl, by rw [HL.out]; rfl⟩, hB⟩

set_option maxRecDepth 100000 in
set_option maxHeartbeats 1000000 in
theorem hasGreat (w : World) (hG : Ground w) (xa : Option Addr) (n cap : Nat) (s : Nat → ByteArray) (hr : Rs w xa n s) (hlim : n ≤ 100000) (P : Nat → Bool) (hp : ∀ i, i < n → ∀ W, Ground W → Calls Tryz.prog 48 #[.string (s i)] W fun e W' => e = .returned (.bool (P i)) ∧ Below W.heap.size W W') :
    Calls Tryz.prog 47 #[.slice xa n cap, .func (.func 48) #[] #[]] w fun e w' => e = .returned (.bool ((List.range n).any P)) ∧ Below w.heap.size w w' := by
  have HI := Lib.hid (idxGreat w hG xa n cap s hr hlim P hp)
  clear hp hr
  go_enter Tryz.func47, Tryz.ntmps47
  go_wp2_with fail
  refine HI.out.mono ?_
  rintro _ w1 ⟨⟨r, rfl, hd⟩, hB⟩
  have HD := Lib.hid hd
  clear hd
  go_wp2_with fail
  go_ret
  exact ⟨by rw [← HD.out]; simp, hB⟩

set_option maxRecDepth 100000 in
set_option maxHeartbeats 1000000 in
/-- slices.IndexFunc(l, a fraction that is wrong) -/
theorem idxWrong (w : World) (hG : Ground w) (xa : Option Addr) (n cap : Nat) (u v : Nat → ByteArray) (hr : Rf w xa n u v) (hlim : n ≤ 100000) (P : Nat → Bool) (hp : ∀ i, i < n → ∀ W, Ground W → Calls Tryz.prog 128 #[.agg #[.string (u i), .string (v i)]] W fun e W' => e = .returned (.bool (P i)) ∧ Below W.heap.size W W') :
    Calls Tryz.prog 69 #[.slice xa n cap, .func (.func 128) #[] #[]] w fun e w' => (∃ r : Int, e = .returned (.int .i64 r) ∧ decide (0 ≤ r) = (List.range n).any P) ∧ Below w.heap.size w w' := by
  go_enter Tryz.func69, Tryz.ntmps69
  go_wp2_with fail
  go_loopw [8] (fun iv wr => ∃ k : Nat, k ≤ n ∧ iv = .int .i64 (k : Int) ∧ (List.range k).any P = false ∧ Below w.heap.size w wr) (fun iv _ => n - (intOf iv).toNat)
  case atStart => exact ⟨0, Nat.zero_le _, rfl, rfl, Below.refl _ _⟩
  case round =>
    obtain ⟨k, hk, rfl, hl, hB⟩ := hrel
    have HL := Lib.hid hl
    clear hl
    by_cases hlt : k < n
    · have hr1 := hr.belowAt hB (Nat.le_refl _)
      obtain ⟨b, o, rfl, hb, hck, hck2⟩ := Rf.at hr1 hlt
      have HP := Lib.hid (hp k hlt wr (hG.below hB))
      obtain ⟨sk, hsk⟩ : ∃ sk, u k = sk := ⟨_, rfl⟩
      obtain ⟨tk, htk⟩ : ∃ tk, v k = tk := ⟨_, rfl⟩
      rw [hsk] at hck HP
      rw [htk] at hck2 HP
      clear hsk htk
      have HB := Lib.hid hB
      clear hr hr1 hp hB
      go_wp2_with fail
      refine HP.out.mono ?_
      rintro e w' ⟨rfl, hB1⟩
      have hB2 := HB.out.trans (hB1.mono HB.out.size)
      have hsu : (List.range (k + 1)).any P = ((List.range k).any P || P k) := by rw [List.range_succ, List.any_append]; simp
      cases hpk : P k with
      | true =>
        have HT := Lib.hid (show decide ((0 : Int) ≤ (k : Int)) = (List.range n).any P by
          rw [decide_eq_true (by omega)]
          exact (List.any_eq_true.2 ⟨k, List.mem_range.2 hlt, hpk⟩).symm)
        clear hsu hpk hB1
        go_wp2_with fail
        go_ret
        exact ⟨⟨_, rfl, HT.out⟩, hB2⟩
      | false =>
        have HT := Lib.hid (show (List.range (k + 1)).any P = false by rw [hsu, HL.out, hpk]; rfl)
        clear hsu hpk hB1
        go_wp2_with fail
        go_roundw
        case rel => exact ⟨k + 1, by omega, by simp, HT.out, hB2⟩
        case measure => simp [intOf]; omega
    · obtain rfl : k = n := by omega
      clear hr hp
      go_wp2_with fail
      go_ret
      exact ⟨⟨-1, rfl, by rw [HL.out]; rfl⟩, hB⟩

set_option maxRecDepth 100000 in
set_option maxHeartbeats 1000000 in
theorem hasWrong (w : World) (hG : Ground w) (xa : Option Addr) (n cap : Nat) (u v : Nat → ByteArray) (hr : Rf w xa n u v) (hlim : n ≤ 100000) (P : Nat → Bool) (hp : ∀ i, i < n → ∀ W, Ground W → Calls Tryz.prog 128 #[.agg #[.string (u i), .string (v i)]] W fun e W' => e = .returned (.bool (P i)) ∧ Below W.heap.size W W') :
    Calls Tryz.prog 24 #[.slice xa n cap, .func (.func 128) #[] #[]] w fun e w' => e = .returned (.bool ((List.range n).any P)) ∧ Below w.heap.size w w' := by
  have HI := Lib.hid (idxWrong w hG xa n cap u v hr hlim P hp)
  clear hp hr
  go_enter Tryz.func24, Tryz.ntmps24
  go_wp2_with fail
  refine HI.out.mono ?_
  rintro _ w1 ⟨⟨r, rfl, hd⟩, hB⟩
  have HD := Lib.hid hd
  clear hd
  go_wp2_with fail
  go_ret
  exact ⟨by rw [← HD.out]; simp, hB⟩

set_option maxRecDepth 100000 in
set_option maxHeartbeats 1000000 in
/-- slices.IndexFunc(l, a fraction of over 12 bytes) -/
theorem idxWide (w : World) (hG : Ground w) (xa : Option Addr) (n cap : Nat) (u v : Nat → ByteArray) (hr : Rf w xa n u v) (hlim : n ≤ 100000) (P : Nat → Bool) (hp : ∀ i, i < n → ∀ W, Ground W → Calls Tryz.prog 25 #[.agg #[.string (u i), .string (v i)]] W fun e W' => e = .returned (.bool (P i)) ∧ Below W.heap.size W W') :
    Calls Tryz.prog 69 #[.slice xa n cap, .func (.func 25) #[] #[]] w fun e w' => (∃ r : Int, e = .returned (.int .i64 r) ∧ decide (0 ≤ r) = (List.range n).any P) ∧ Below w.heap.size w w' := by
  go_enter Tryz.func69, Tryz.ntmps69
  go_wp2_with fail
  go_loopw [8] (fun iv wr => ∃ k : Nat, k ≤ n ∧ iv = .int .i64 (k : Int) ∧ (List.range k).any P = false ∧ Below w.heap.size w wr) (fun iv _ => n - (intOf iv).toNat)
  case atStart => exact ⟨0, Nat.zero_le _, rfl, rfl, Below.refl _ _⟩
  case round =>
    obtain ⟨k, hk, rfl, hl, hB⟩ := hrel
    have HL := Lib.hid hl
    clear hl
    by_cases hlt : k < n
    · have hr1 := hr.belowAt hB (Nat.le_refl _)
      obtain ⟨b, o, rfl, hb, hck, hck2⟩ := Rf.at hr1 hlt
      have HP := Lib.hid (hp k hlt wr (hG.below hB))
      obtain ⟨sk, hsk⟩ : ∃ sk, u k = sk := ⟨_, rfl⟩
      obtain ⟨tk, htk⟩ : ∃ tk, v k = tk := ⟨_, rfl⟩
      rw [hsk] at hck HP
      rw [htk] at hck2 HP
      clear hsk htk
      have HB := Lib.hid hB
      clear hr hr1 hp hB
      go_wp2_with fail
      refine HP.out.mono ?_
      rintro e w' ⟨rfl, hB1⟩
      have hB2 := HB.out.trans (hB1.mono HB.out.size)
      have hsu : (List.range (k + 1)).any P = ((List.range k).any P || P k) := by rw [List.range_succ, List.any_append]; simp
      cases hpk : P k with
      | true =>
        have HT := Lib.hid (show decide ((0 : Int) ≤ (k : Int)) = (List.range n).any P by
          rw [decide_eq_true (by omega)]
          exact (List.any_eq_true.2 ⟨k, List.mem_range.2 hlt, hpk⟩).symm)
        clear hsu hpk hB1
        go_wp2_with fail
        go_ret
        exact ⟨⟨_, rfl, HT.out⟩, hB2⟩
      | false =>
        have HT := Lib.hid (show (List.range (k + 1)).any P = false by rw [hsu, HL.out, hpk]; rfl)
        clear hsu hpk hB1
        go_wp2_with fail
        go_roundw
        case rel => exact ⟨k + 1, by omega, by simp, HT.out, hB2⟩
        case measure => simp [intOf]; omega
    · obtain rfl : k = n := by omega
      clear hr hp
      go_wp2_with fail
      go_ret
      exact ⟨⟨-1, rfl, by rw [HL.out]; rfl⟩, hB⟩

set_option maxRecDepth 100000 in
set_option maxHeartbeats 1000000 in
theorem hasWide (w : World) (hG : Ground w) (xa : Option Addr) (n cap : Nat) (u v : Nat → ByteArray) (hr : Rf w xa n u v) (hlim : n ≤ 100000) (P : Nat → Bool) (hp : ∀ i, i < n → ∀ W, Ground W → Calls Tryz.prog 25 #[.agg #[.string (u i), .string (v i)]] W fun e W' => e = .returned (.bool (P i)) ∧ Below W.heap.size W W') :
    Calls Tryz.prog 24 #[.slice xa n cap, .func (.func 25) #[] #[]] w fun e w' => e = .returned (.bool ((List.range n).any P)) ∧ Below w.heap.size w w' := by
  have HI := Lib.hid (idxWide w hG xa n cap u v hr hlim P hp)
  clear hp hr
  go_enter Tryz.func24, Tryz.ntmps24
  go_wp2_with fail
  refine HI.out.mono ?_
  rintro _ w1 ⟨⟨r, rfl, hd⟩, hB⟩
  have HD := Lib.hid hd
  clear hd
  go_wp2_with fail
  go_ret
  exact ⟨by rw [← HD.out]; simp, hB⟩

end Go.Proofs.YthhihdihkddakaaGreatDoor

/- allocate.beginnings, its closure, and addUp: a range over a function. -/
namespace Go.Proofs.YthhihdihkddakaaGreatDoor
open Go.RowKit Go.Shelf

attribute [local go_sem] Oper.semAt_some

/-- the sum of the first k strings -/
def sumS (s : Nat → ByteArray) (k : Nat) : Int := Num.sumZ (fun i => vS (s i)) k
theorem sumS_zero (s : Nat → ByteArray) : sumS s 0 = 0 := rfl
theorem sumS_succ (s : Nat → ByteArray) (k : Nat) : sumS s (k + 1) = sumS s k + vS (s k) := rfl
theorem sumS_cap {s : Nat → ByteArray} {c : Nat} (hc : 1 ≤ c) : ∀ {k : Nat}, (∀ i, i < k → Cap c (vS (s i))) → Cap (c + k) (sumS s k)
  | 0, _ => by
    unfold Cap
    rw [sumS_zero]
    have := Nat.pow_pos (n := c + 0) (show 0 < 10 by decide)
    simpa using this
  | k + 1, h => by
    rw [sumS_succ]
    have h1 := sumS_cap hc (k := k) (fun i hi => h i (by omega))
    have h2 := (h k (by omega)).mono (l := c + k) (by omega)
    exact h1.add h2
/-- what the strings of a slice bear: few, and each of at most c digits -/
structure Fit (N c : Nat) (s : Nat → ByteArray) : Prop where
  few : N ≤ 2000
  c1 : 1 ≤ c
  c2 : c ≤ 100000
  cap : ∀ i, i < N → Cap c (vS (s i))
  size : ∀ i, i < N → (s i).size ≤ 200000
theorem Fit.sum {N c k : Nat} {s : Nat → ByteArray} (h : Fit N c s) (hk : k ≤ N) : (cS (sumS s k)).size ≤ 4294967295 := by
  have h1 := sumS_cap h.c1 (k := k) (s := s) (fun i hi => h.cap i (by omega))
  have := cS_size h1
  have := h.few
  have := h.c2
  omega

set_option maxRecDepth 100000 in
set_option maxHeartbeats 2000000 in
/-- the closure: the sum of each beginning is yielded -/
theorem begin1_in (n : Nat) (hn : 1 ≤ n) (l bl N c : Nat) (s : Nat → ByteArray) (hf : Fit N c s) (xa : Option Addr) (cap : Nat) (J : Nat → World → Prop)
    (hJ : ∀ k A A', J k A → Below A.heap.size A A' → J k A')
    (hJs : ∀ k A, J k A → Rs A xa N s ∧ Ground A)
    (hY : ∀ k W1, k < N → J k W1 → YieldAt Fence.wide (n - 1) Tryz.prog l #[.string (cS (sumS s (k + 1)))] W1 fun e W' =>
      e = .returned (.bool true) ∧ J (k + 1) W')
    (W : World) (hbl : W.cell? ⟨bl, 0, none⟩ = some (.slice xa N cap)) (h0 : J 0 W) :
    CallsIn Fence.wide n Tryz.prog 120 #[.func (.yield l) #[] #[], .pointer (some ⟨bl, 0, none⟩)] W fun e W' => (∃ v, e = .returned v) ∧ J N W' := by
  refine callsIn_of_wp Tryz.func120 rfl trivial ?_ rfl
  simp only [Tryz.ntmps120, List.size_toArray, List.length_cons, List.length_nil, Nat.reduceAdd, Nat.reduceSub, Array.replicate_succ, Array.replicate_zero, List.push_toArray, List.append_toArray, List.nil_append, List.cons_append]
  have hlim := hf.few
  have HJ0 := Lib.hid h0
  have HF := Lib.hid hf
  clear h0 hf
  gi_wp2
  gi_loopw [3, 8] (fun sv iv wr => ∃ k : Nat, k ≤ N ∧ iv = .int .i64 (k : Int) ∧ sv = .string (cS (sumS s k)) ∧ J k wr) (fun _ iv _ => N - (intOf iv).toNat)
  case atStart => exact ⟨0, Nat.zero_le _, rfl, by rw [sumS_zero, cS_zero], HJ0.out⟩
  case round =>
    clear HJ0
    obtain ⟨k, hk, rfl, rfl, hj⟩ := hrel
    by_cases hlt : k < N
    · obtain ⟨hrs, hG⟩ := hJs k wr hj
      obtain ⟨b, o, rfl, hb, hck⟩ := Rs.at hrs hlt
      have hsz := HF.out.size k hlt
      have HA := Lib.hid (add_v (z := sumS s (k + 1)) wr hG (HF.out.sum (k := k) (by omega)) (show (s k).size ≤ 4294967295 by omega) (vS_cS _) rfl (sumS_succ s k).symm)
      have HYY := fun W1 => hY k W1 hlt
      have HJJ := Lib.hid hj
      obtain ⟨sk, hsk⟩ : ∃ sk, s k = sk := ⟨_, rfl⟩
      rw [hsk] at hck HA
      obtain ⟨ts, hts⟩ : ∃ ts, cS (sumS s (k + 1)) = ts := ⟨_, rfl⟩
      have HTS := Lib.hid hts
      obtain ⟨tk, htk⟩ : ∃ tk, cS (sumS s k) = tk := ⟨_, rfl⟩
      rw [htk] at HA ⊢
      clear hj hsz hrs hsk htk
      gi_wp2_with fail
      refine ⟨trivial, (callsIn_wide.2 HA.out).mono ?_⟩
      rintro e w1 ⟨rfl, hB1⟩
      have hj1 := hJ k wr w1 HJJ.out hB1
      obtain ⟨fn, tmps, assign, body, hy, hR⟩ := HYY w1 hj1
      rw [hts] at hy ⊢
      clear HYY hts hB1 HJJ HA hj1
      gi_wp2_with fail
      refine hR.mono ?_
      rintro e w2 ⟨rfl, hj2⟩
      have HJ2 := Lib.hid hj2
      clear hj2 hR hy
      gi_wp2_with fail
      go_roundw
      case rel => exact ⟨k + 1, by omega, by simp, by rw [HTS.out], HJ2.out⟩
      case measure => simp [intOf]; omega
    · obtain rfl : k = N := by omega
      have HJJ := Lib.hid hj
      clear hj
      gi_wp2
      go_end0
      exact ⟨⟨_, rfl⟩, HJJ.out⟩

set_option maxRecDepth 100000 in
set_option maxHeartbeats 2000000 in
theorem begin_in (n : Nat) (xa : Option Addr) (N cap : Nat) (w : World) :
    CallsIn Fence.wide n Tryz.prog 65 #[.slice xa N cap] w fun e w' =>
      e = .returned (.func (.func 120) #[] #[.pointer (some ⟨w.heap.size, 0, none⟩)]) ∧
      w' = w.alloc (.cells #[.slice xa N cap] 23) := by
  refine callsIn_of_wp Tryz.func65 rfl trivial ?_ rfl
  simp only [Tryz.ntmps65, List.size_toArray, List.length_cons, List.length_nil, Nat.reduceAdd, Nat.reduceSub, Array.replicate_succ, Array.replicate_zero, List.push_toArray, List.append_toArray, List.nil_append, List.cons_append]
  gi_wp2
  go_ret
  exact ⟨rfl, rfl⟩

set_option maxHeartbeats 1000000 in
/-- a loop over the sums of the beginnings: I is the caller's own; all that lay in w0 stays -/
theorem wpIn_begin {n : Nat} (hn : 3 ≤ n) {g : Operand} {ps : Array Tmp} {assign body : Code} {Q : Exit → Act → World → Prop} {a : Act} {w w0 : World} {bl : Nat} {xa : Option Addr} {cap : Nat}
    (hg : a.eval g = .func (.func 120) #[] #[.pointer (some ⟨bl, 0, none⟩)]) (hps : ps.size = 1)
    (N c : Nat) (s : Nat → ByteArray) (hf : Fit N c s) (hG0 : Ground w0) (hs0 : Rs w0 xa N s)
    (hbl : Boxed w bl 23 (.slice xa N cap))
    (I : Nat → World → Prop)
    (hI : ∀ k A A' row, I k A → A.grownBy A' row → (∀ r, row = some r → w.heap.size ≤ r) → I k A')
    (hIb : ∀ k A, I k A → Below w0.heap.size w0 A)
    (h0 : I 0 w)
    (a₁ : Value → Act)
    (hassign : ∀ (l : Nat) (q : Value) (W : World) (K : Act → World → Prop), K (a₁ q) W →
      assign.wpIn (Fence.wide.inRound l) (n - 1 - 1) Tryz.prog (Exit.then K (fun _ _ _ => False)) { tmps := (ps.zip #[q]).foldl (fun t (p, v) => t.setIfInBounds p v) a.tmps, defers := [] } W)
    (hbody : ∀ (l : Nat) (k : Nat) (W : World), k < N → I k W →
      body.wpIn (Fence.wide.inRound l) (n - 1 - 1) Tryz.prog (fun e _ W' => e = .normal ∧ I (k + 1) W' ∧ ∀ j, w.heap.size ≤ j → j < W.heap.size → W'.heap[j]? = W.heap[j]?)
        (a₁ (.string (cS (sumS s (k + 1))))) W)
    (hdone : ∀ (D : Nat) (W : World), w.heap.size ≤ D → I N W →
      W.heap[D]? = some (.deferred (some [])) → Q .normal { a with defers := { target := .collected D, args := #[] } :: a.defers } W) :
    (Code.rangeFunc g ps assign body).wpIn Fence.wide n Tryz.prog Q a w := by
  refine wpIn_rangeFunc ?_
  intro fn hfn
  obtain ⟨rec, hrec⟩ : ∃ rec : LoopState → Option Code → Loop, rec = fun st pe => { state := st, pending := pe, fn, tmps := a.tmps, params := ps, assign, body, defers := w.heap.size } := ⟨_, rfl⟩
  obtain ⟨W1, hW1⟩ : ∃ W1, (w.alloc (.deferred (some []))).alloc (.loop (rec .ready none)) = W1 := ⟨_, rfl⟩
  have hL1 : W1.heap[w.heap.size + 1]? = some (.loop (rec .ready none)) := by
    rw [← hW1]; have := World.alloc_heap_new (w.alloc (.deferred (some []))) (.loop (rec .ready none)); rwa [World.size_alloc] at this
  have hK1 : W1.heap[w.heap.size]? = some (.deferred (some [])) := by
    rw [← hW1]; exact (Below.heap_alloc _ _ _ (by simp)).trans (World.alloc_heap_new w _)
  have hB1 : Below w.heap.size w W1 := by
    rw [← hW1]; exact ((Below.refl _ w).alloc (Nat.le_refl _) _).alloc (by simp) _
  refine ⟨w.heap.size + 1, [{ target := .collected w.heap.size, args := #[] }], W1, { target := .fn (.func 120) #[.pointer (some ⟨bl, 0, none⟩)], args := #[.func (.yield (w.heap.size + 1)) #[] #[]] }, W1, 120,
    #[.func (.yield (w.heap.size + 1)) #[] #[], .pointer (some ⟨bl, 0, none⟩)], W1, ?_, ?_, fun _ _ => trivial, ?_, fun _ => by omega, ?_⟩
  · rw [← hW1, hrec]; exact run_enterLoop_outer _ _ _ _ _
  · simp only [resolve, hg]
    simp [go_sem]
  · simp [invoke, go_sem]
  · refine (begin1_in (n - 1) (by omega) (w.heap.size + 1) bl N c s hf xa cap
      (fun k W => I k W ∧ W.heap[w.heap.size + 1]? = some (.loop (rec .ready none)) ∧ W.heap[w.heap.size]? = some (.deferred (some [])) ∧ w.heap.size + 1 < W.heap.size)
      (fun k A A' hs hb => ⟨hI _ _ _ none hs.1 (grown_of_below hb none) (fun r e => by cases e), (hb.block _ hs.2.2.2).trans hs.2.1, (hb.block _ (by have := hs.2.2.2; omega)).trans hs.2.2.1, Nat.lt_of_lt_of_le hs.2.2.2 hb.size⟩)
      (fun k A hs => ⟨hs0.belowAt (hIb _ _ hs.1) (Nat.le_refl _), hG0.below (hIb _ _ hs.1)⟩)
      ?_ W1 ((hB1.cell (p := ⟨bl, 0, none⟩) hbl.lt).trans hbl.cell)
      ⟨hI _ _ _ none h0 (grown_of_below hB1 none) (fun r e => by cases e), hL1, hK1, (Array.getElem?_eq_some_iff.1 hL1).1⟩).mono ?_
    · rintro k W hkN ⟨hi, hl, hk, hlt⟩
      have hy := run_yield (P := Tryz.prog) (args := #[.string (cS (sumS s (k + 1)))]) hl (by rw [hrec]; exact hps.symm)
      rw [hrec] at hy
      refine ⟨fn, _, assign, body, hy, roundIn_of_wpIn hfn (hassign _ _ W _ ⟨_, run_beginRound hl (by rw [hrec]), ?_⟩)⟩
      have hl2 : (W.putObj (w.heap.size + 1) (.loop { rec .ready none with state := .busy })).heap[w.heap.size + 1]? = some (.loop { rec .ready none with state := .busy }) := World.putObj_heap_same hlt
      have hk2 : (W.putObj (w.heap.size + 1) (.loop { rec .ready none with state := .busy })).heap[w.heap.size]? = some (.deferred (some [])) := (World.putObj_heap_other (by omega)).trans hk
      have hs2 : w.heap.size + 1 < (W.putObj (w.heap.size + 1) (.loop { rec .ready none with state := .busy })).heap.size := (Array.getElem?_eq_some_iff.1 hl2).1
      have hi2 := hI _ _ _ (some (w.heap.size + 1)) hi (grownBy_putObj' W (w.heap.size + 1) (.loop { rec .ready none with state := .busy })) (fun r e => by cases e; omega)
      refine wpIn_mono (hbody _ k _ hkN hi2) ?_
      rintro e a3 W3 ⟨rfl, hi3, hk3⟩
      have hl3 := (hk3 (w.heap.size + 1) (by omega) hs2).trans hl2
      have hd3 := (hk3 w.heap.size (Nat.le_refl _) (Nat.lt_of_succ_lt hs2)).trans hk2
      have hlt3 := (Array.getElem?_eq_some_iff.1 hl3).1
      have her := run_endRound (P := Tryz.prog) none hl3
      refine ⟨_, _, her, rfl, hI _ _ _ (some (w.heap.size + 1)) hi3 (grownBy_putObj' W3 _ _) (fun r e => by cases e; omega), ?_, (World.putObj_heap_other (by omega)).trans hd3, ?_⟩
      · rw [World.putObj_heap_same hlt3, hrec]; rfl
      · exact Nat.lt_of_lt_of_le hlt3 (grownBy_putObj' W3 _ _).size
    · rintro e W2 ⟨⟨v, rfl⟩, hi, hl, hk, hlt⟩
      have hel := run_endLoop (P := Tryz.prog) hl (by rw [hrec]; simp)
      rw [hrec] at hel
      refine ⟨none, _, hel, ?_⟩
      refine hdone w.heap.size _ (Nat.le_refl _) (hI _ _ _ (some (w.heap.size + 1)) hi (grownBy_putObj' W2 _ _) (fun r e => by cases e; omega)) ((World.putObj_heap_other (by omega)).trans hk)

set_option maxRecDepth 100000 in
set_option maxHeartbeats 4000000 in
theorem addUp_in (n : Nat) (hn : 3 ≤ n) (xa : Option Addr) (N cap c : Nat) (s : Nat → ByteArray) (w : World) (hG : Ground w) (hr : Rs w xa N s) (hf : Fit N c s) :
    CallsIn Fence.wide n Tryz.prog 78 #[.slice xa N cap] w (StrPost w (sumS s N)) := by
  have h1 : 1 ≤ n := by omega
  have hmix : Tryz.prog.follows .mixedOrders = true := by kernel_rfl
  refine callsIn_of_wp_marks Tryz.func78 rfl trivial ?_ rfl
  simp only [Tryz.ntmps78, List.size_toArray, List.length_cons, List.length_nil, Nat.reduceAdd, Nat.reduceSub, Array.replicate_succ, Array.replicate_zero, List.push_toArray, List.append_toArray, List.nil_append, List.cons_append]
  gi_wp2_with fail
  refine ⟨trivial, (begin_in (n - 1) xa N cap _).mono ?_⟩
  rintro e w1 ⟨rfl, rfl⟩
  obtain ⟨W1, hW1⟩ : ∃ W1, W1 = w.alloc (.cells #[.string ⟨#[]⟩] 22) := ⟨_, rfl⟩
  obtain ⟨X, hX⟩ : ∃ X, X = w.heap.size := ⟨_, rfl⟩
  have hbX : Boxed W1 X 22 (.string ⟨#[]⟩) := by rw [hW1, hX]; exact Boxed.new _ _ _
  have hBW : Below w.heap.size w W1 := by rw [hW1]; exact (Below.refl _ _).alloc (Nat.le_refl _) _
  rw [← hW1, ← hX]
  have hbX2 := hbX.alloc (.cells #[.slice xa N cap] 23)
  have hBW2 := hBW.alloc hBW.size (.cells #[.slice xa N cap] 23)
  have hbl := Boxed.new W1 23 (.slice xa N cap)
  have hXl := hbX2.lt
  have hX0 : w.heap.size ≤ X := by rw [hX]; exact Nat.le_refl _
  clear hbX hBW hW1 hX
  revert hbX2 hBW2 hbl hXl
  generalize W1.alloc (.cells #[.slice xa N cap] 23) = W2
  generalize W1.heap.size = bl
  intro hbX hBW hbl hXl
  gi_wp2_with fail
  refine wpIn_begin hn (bl := bl) rfl rfl N c s hf hG hr hbl
    (fun k W => Boxed W X 22 (.string (cS (sumS s k))) ∧ Below w.heap.size w W)
    ?hI (fun k A h => h.2) ⟨by rw [sumS_zero, cS_zero]; exact hbX, hBW⟩
    (fun q => { tmps := #[.slice xa N cap, undef, .string ⟨#[]⟩, .pointer (some ⟨X, 0, none⟩), q, .slice xa N cap, .func (.func 120) #[] #[.pointer (some ⟨bl, 0, none⟩)], q, undef, undef], defers := [] }) ?assign ?body ?done
  case hI =>
    rintro k A A' row ⟨h1, h2⟩ hg hr
    have hw4 := hBW.size
    exact ⟨h1.kept hg (fun e => by have := hr X e.symm; omega), h2.grown hg h2.size (fun k e => by have := hr k e; omega)⟩
  case assign =>
    intro l q W K hK
    gi_wp2
    exact hK
  case body =>
    rintro l k W hk ⟨h1, h2⟩
    obtain ⟨ts, hts⟩ : ∃ ts, cS (sumS s (k + 1)) = ts := ⟨_, rfl⟩
    rw [hts]
    have hcX := h1.cell
    have hfX := h1.frozen
    have HX := Lib.hid h1
    have HB := Lib.hid h2
    clear h1 h2
    gi_wp2
    rw [← hts]
    exact ⟨⟨HX.out.set _, HB.out.setCell (p := ⟨X, 0, none⟩) hX0 _⟩, fun j hj _ => Below.heap_setCell _ _ _ j (by simp only; omega)⟩
  case done =>
    rintro D W hD ⟨h1, h2⟩ hK
    have hcX := h1.cell
    have HK := Lib.hid hK
    have HB := Lib.hid h2
    have HD := Lib.hid hD
    have HW := Lib.hid hBW.size
    clear h1 h2 hK hD hbX hbl
    gi_wp2_with fail
    refine ⟨by simp, .inl ⟨_, _, rfl, run_takeDeferred HK.out, ?_⟩⟩
    have := HD.out
    have := HW.out
    exact ⟨_, results_tmp rfl _ _ _, rfl, HB.out.grown (grownBy_putObj' W D _) HB.out.size (fun k e => by cases e; omega)⟩

theorem aAddUp (xa : Option Addr) (N cap c : Nat) (s : Nat → ByteArray) (w : World) (hG : Ground w) (hr : Rs w xa N s) (hf : Fit N c s) :
    Calls Tryz.prog 78 #[.slice xa N cap] w (StrPost w (sumS s N)) :=
  callsIn_wide.1 (addUp_in 3 (Nat.le_refl _) xa N cap c s w hG hr hf)

end Go.Proofs.YthhihdihkddakaaGreatDoor

/- allocate.weigh: the walk. -/
namespace Go.Proofs.YthhihdihkddakaaGreatDoor
open Go.RowKit

theorem Rs.one (w : World) (t : ByteArray) (ty : TypeId) : Rs (w.alloc (.cells #[.string t] ty)) (some ⟨w.heap.size, 0, none⟩) 1 fun _ => t :=
  ⟨fun _ => ⟨w.heap.size, 0, rfl, by simp, fun i hi => by
    obtain rfl : i = 0 := by omega
    rw [cell_of_row _ _ _ _ _ _ (heap_alloc_new _ _)]
    rfl⟩⟩
theorem allC_one (t : ByteArray) : allC 1 (fun _ => t) = isCan t := by unfold allC; simp
/-- some weight is negative -/
def negs (n : Nat) (s : Nat → ByteArray) : Bool := (List.range n).any fun i => decide (vS (s i) < 0)
theorem negs_false {n : Nat} {s : Nat → ByteArray} : negs n s = false ↔ ∀ i, i < n → 0 ≤ vS (s i) := by
  unfold negs
  rw [List.any_eq_false]
  exact ⟨fun h i hi => by have := h i (List.mem_range.2 hi); simpa using this, fun h i hi => by have := h i (List.mem_range.1 hi); simpa using this⟩
/-- few, or too many -/
structure FitW (n : Nat) (t : ByteArray) (s : Nat → ByteArray) : Prop where
  few : n ≤ 19 ∨ 1000 < n
  max : n ≤ 100000
  t1 : t.size ≤ 1000
  size : n ≤ 1000 → ∀ i, i < n → (s i).size ≤ 1000
theorem FitW.fit {n : Nat} {t : ByteArray} {s : Nat → ByteArray} (h : FitW n t s) (hn : n ≤ 1000) : Fit n 1000 s :=
  ⟨by omega, by decide, by decide, fun i hi => Cap.of (h.size hn i hi) rfl, fun i hi => by have := h.size hn i hi; omega⟩
/-- why t cannot be divided by the weights -/
def weighE (t : ByteArray) (n : Nat) (s : Nat → ByteArray) : Int :=
  if n = 0 then 11 else if 1000 < n then 4 else if isCan t = false ∨ allC n s = false ∨ negs n s = true then 1 else if sumS s n = 0 then 10 else 0
/-- t can be divided by the weights -/
structure Good (t : ByteArray) (n : Nat) (s : Nat → ByteArray) : Prop where
  pos : 0 < n
  few : n ≤ 1000
  total : isCan t = true
  can : ∀ i, i < n → isCan (s i) = true
  nn : ∀ i, i < n → 0 ≤ vS (s i)
  ne : sumS s n ≠ 0
theorem weighE_zero {t : ByteArray} {n : Nat} {s : Nat → ByteArray} (h : weighE t n s = 0) : Good t n s := by
  unfold weighE at h
  by_cases h1 : n = 0
  · rw [if_pos h1] at h; omega
  rw [if_neg h1] at h
  by_cases h2 : 1000 < n
  · rw [if_pos h2] at h; omega
  rw [if_neg h2] at h
  by_cases h3 : isCan t = false ∨ allC n s = false ∨ negs n s = true
  · rw [if_pos h3] at h; omega
  rw [if_neg h3] at h
  by_cases h4 : sumS s n = 0
  · rw [if_pos h4] at h; omega
  refine ⟨by omega, by omega, ?_, ?_, ?_, h4⟩
  · cases hc : isCan t with
    | true => rfl
    | false => exact absurd (Or.inl hc) h3
  · refine allC_iff.1 ?_
    cases hc : allC n s with
    | true => rfl
    | false => exact absurd (Or.inr (Or.inl hc)) h3
  · refine negs_false.1 ?_
    cases hc : negs n s with
    | false => rfl
    | true => exact absurd (Or.inr (Or.inr hc)) h3
theorem Good.weigh {t : ByteArray} {n : Nat} {s : Nat → ByteArray} (h : Good t n s) : weighE t n s = 0 := by
  unfold weighE
  rw [if_neg (by have := h.pos; omega), if_neg (by have := h.few; omega), if_neg, if_neg h.ne]
  rintro (k | k | k)
  · rw [h.total] at k; cases k
  · rw [allC_iff.2 h.can] at k; cases k
  · rw [negs_false.2 h.nn] at k; cases k
set_option maxRecDepth 100000 in
set_option maxHeartbeats 4000000 in
theorem aWeigh_cnt (w : World) (t : ByteArray) (xa : Option Addr) (n cap : Nat) (c : Int) (hc : cnt n = c) (hb : (c != 0) = true) (hmax : n ≤ 100000) :
    Calls Tryz.prog 49 #[.string t, .slice xa n cap] w fun e w' => e = .returned (.tuple #[.string ⟨#[]⟩, .int .i64 c]) ∧ Below w.heap.size w w' := by
  have HC := Lib.hid (aCount n w (by omega))
  rw [hc] at HC
  clear hc
  go_enter Tryz.func49, Tryz.ntmps49
  go_wp2_with fail
  refine HC.out.mono ?_
  rintro _ _ ⟨rfl, rfl⟩
  go_wp2_with fail
  go_ret2
  exact ⟨rfl, Below.refl _ _⟩

set_option maxRecDepth 100000 in
set_option maxHeartbeats 4000000 in
theorem aWeigh_can (w : World) (hG : Ground w) (t : ByteArray) (xa : Option Addr) (n cap : Nat) (s : Nat → ByteArray) (hr : Rs w xa n s) (hf : FitW n t s) (h0 : 0 < n) (hk : n ≤ 1000) (ht : isCan t = false) :
    Calls Tryz.prog 49 #[.string t, .slice xa n cap] w fun e w' => e = .returned (.tuple #[.string ⟨#[]⟩, .int .i64 1]) ∧ Below w.heap.size w w' := by
  have hmax := hf.max
  have HC := Lib.hid (aCount n w (by omega))
  rw [show cnt n = 0 by unfold cnt; rw [if_neg (by omega), if_neg (by omega)]] at HC
  have hr1 := hr.alloc (.cells #[.string t] 22)
  have hG1 := hG.alloc (.cells #[.string t] 22)
  have hB1 : Below w.heap.size w (w.alloc (.cells #[.string t] 22)) := (Below.refl _ _).alloc (Nat.le_refl _) _
  have HT := Lib.hid (aCan _ _ 1 1 _ (Rs.one w t 22) (by decide) (fun _ _ => by have := hf.t1; omega))
  rw [allC_one] at HT
  have HR := Lib.hid hr1
  have HF := Lib.hid hf
  have HG := Lib.hid hG1
  have HB := Lib.hid hB1
  clear hf hr hr1 hG1 hB1 hG
  rw [ht] at HT
  clear ht
  go_enter Tryz.func49, Tryz.ntmps49
  go_wp2_with fail
  refine HC.out.mono ?_
  rintro _ _ ⟨rfl, rfl⟩
  go_wp2_with fail
  refine HT.out.mono ?_
  rintro _ _ ⟨rfl, rfl⟩
  go_wp2_with fail
  go_ret2
  exact ⟨rfl, HB.out⟩

set_option maxRecDepth 100000 in
set_option maxHeartbeats 4000000 in
theorem aWeigh_all (w : World) (hG : Ground w) (t : ByteArray) (xa : Option Addr) (n cap : Nat) (s : Nat → ByteArray) (hr : Rs w xa n s) (hf : FitW n t s) (h0 : 0 < n) (hk : n ≤ 1000) (ht : isCan t = true) (ha : allC n s = false) :
    Calls Tryz.prog 49 #[.string t, .slice xa n cap] w fun e w' => e = .returned (.tuple #[.string ⟨#[]⟩, .int .i64 1]) ∧ Below w.heap.size w w' := by
  have hmax := hf.max
  have HC := Lib.hid (aCount n w (by omega))
  rw [show cnt n = 0 by unfold cnt; rw [if_neg (by omega), if_neg (by omega)]] at HC
  have hr1 := hr.alloc (.cells #[.string t] 22)
  have hG1 := hG.alloc (.cells #[.string t] 22)
  have hB1 : Below w.heap.size w (w.alloc (.cells #[.string t] 22)) := (Below.refl _ _).alloc (Nat.le_refl _) _
  have HT := Lib.hid (aCan _ _ 1 1 _ (Rs.one w t 22) (by decide) (fun _ _ => by have := hf.t1; omega))
  rw [allC_one] at HT
  have HR := Lib.hid hr1
  have HF := Lib.hid hf
  have HG := Lib.hid hG1
  have HB := Lib.hid hB1
  clear hf hr hr1 hG1 hB1 hG
  have HA := Lib.hid (aCan _ xa n cap s HR.out (by omega) (fun i hi => by have := HF.out.size hk i hi; omega))
  rw [ht] at HT
  rw [ha] at HA
  clear ht ha
  go_enter Tryz.func49, Tryz.ntmps49
  go_wp2_with fail
  refine HC.out.mono ?_
  rintro _ _ ⟨rfl, rfl⟩
  go_wp2_with fail
  refine HT.out.mono ?_
  rintro _ _ ⟨rfl, rfl⟩
  go_wp2_with fail
  refine HA.out.mono ?_
  rintro _ _ ⟨rfl, rfl⟩
  go_wp2_with fail
  go_ret2
  exact ⟨rfl, HB.out⟩

set_option maxRecDepth 100000 in
set_option maxHeartbeats 4000000 in
theorem aWeigh_neg (w : World) (hG : Ground w) (t : ByteArray) (xa : Option Addr) (n cap : Nat) (s : Nat → ByteArray) (hr : Rs w xa n s) (hf : FitW n t s) (h0 : 0 < n) (hk : n ≤ 1000) (ht : isCan t = true) (ha : allC n s = true) (hn : negs n s = true) :
    Calls Tryz.prog 49 #[.string t, .slice xa n cap] w fun e w' => e = .returned (.tuple #[.string ⟨#[]⟩, .int .i64 1]) ∧ Below w.heap.size w w' := by
  have hmax := hf.max
  have HC := Lib.hid (aCount n w (by omega))
  rw [show cnt n = 0 by unfold cnt; rw [if_neg (by omega), if_neg (by omega)]] at HC
  have hr1 := hr.alloc (.cells #[.string t] 22)
  have hG1 := hG.alloc (.cells #[.string t] 22)
  have hB1 : Below w.heap.size w (w.alloc (.cells #[.string t] 22)) := (Below.refl _ _).alloc (Nat.le_refl _) _
  have HT := Lib.hid (aCan _ _ 1 1 _ (Rs.one w t 22) (by decide) (fun _ _ => by have := hf.t1; omega))
  rw [allC_one] at HT
  have HR := Lib.hid hr1
  have HF := Lib.hid hf
  have HG := Lib.hid hG1
  have HB := Lib.hid hB1
  clear hf hr hr1 hG1 hB1 hG
  have HA := Lib.hid (aCan _ xa n cap s HR.out (by omega) (fun i hi => by have := HF.out.size hk i hi; omega))
  have HN := Lib.hid (hasNeg _ HG.out xa n cap s HR.out (by omega) (fun i => decide (vS (s i) < 0)) (fun i hi W _ => aNeg (by have := HF.out.size hk i hi; omega) rfl W))
  have HNN : Hid (_ = _) := Lib.hid (show (List.range n).any (fun i => decide (vS (s i) < 0)) = negs n s from rfl)
  rw [HNN.out] at HN
  rw [ht] at HT
  rw [ha] at HA
  rw [hn] at HN
  clear ht ha hn HNN
  go_enter Tryz.func49, Tryz.ntmps49
  go_wp2_with fail
  refine HC.out.mono ?_
  rintro _ _ ⟨rfl, rfl⟩
  go_wp2_with fail
  refine HT.out.mono ?_
  rintro _ _ ⟨rfl, rfl⟩
  go_wp2_with fail
  refine HA.out.mono ?_
  rintro _ _ ⟨rfl, rfl⟩
  go_wp2_with fail
  refine HN.out.mono ?_
  rintro _ w1 ⟨rfl, hB1⟩
  have hB2 := HB.out.trans (hB1.mono HB.out.size)
  have hG2 := HG.out.below hB1
  have hr2 := HR.out.belowAt hB1 (Nat.le_refl _)
  clear hB1 hG2 hr2
  go_wp2_with fail
  go_ret2
  exact ⟨rfl, hB2⟩

set_option maxRecDepth 100000 in
set_option maxHeartbeats 4000000 in
theorem aWeigh_div (w : World) (hG : Ground w) (t : ByteArray) (xa : Option Addr) (n cap : Nat) (s : Nat → ByteArray) (hr : Rs w xa n s) (hf : FitW n t s) (h0 : 0 < n) (hk : n ≤ 1000) (ht : isCan t = true) (ha : allC n s = true) (hn : negs n s = false) (hs : sumS s n = 0) :
    Calls Tryz.prog 49 #[.string t, .slice xa n cap] w fun e w' => e = .returned (.tuple #[.string ⟨#[]⟩, .int .i64 10]) ∧ Below w.heap.size w w' := by
  have hmax := hf.max
  have HC := Lib.hid (aCount n w (by omega))
  rw [show cnt n = 0 by unfold cnt; rw [if_neg (by omega), if_neg (by omega)]] at HC
  have hr1 := hr.alloc (.cells #[.string t] 22)
  have hG1 := hG.alloc (.cells #[.string t] 22)
  have hB1 : Below w.heap.size w (w.alloc (.cells #[.string t] 22)) := (Below.refl _ _).alloc (Nat.le_refl _) _
  have HT := Lib.hid (aCan _ _ 1 1 _ (Rs.one w t 22) (by decide) (fun _ _ => by have := hf.t1; omega))
  rw [allC_one] at HT
  have HR := Lib.hid hr1
  have HF := Lib.hid hf
  have HG := Lib.hid hG1
  have HB := Lib.hid hB1
  clear hf hr hr1 hG1 hB1 hG
  have HA := Lib.hid (aCan _ xa n cap s HR.out (by omega) (fun i hi => by have := HF.out.size hk i hi; omega))
  have HN := Lib.hid (hasNeg _ HG.out xa n cap s HR.out (by omega) (fun i => decide (vS (s i) < 0)) (fun i hi W _ => aNeg (by have := HF.out.size hk i hi; omega) rfl W))
  have HNN : Hid (_ = _) := Lib.hid (show (List.range n).any (fun i => decide (vS (s i) < 0)) = negs n s from rfl)
  rw [HNN.out] at HN
  rw [ht] at HT
  rw [ha] at HA
  rw [hn] at HN
  clear ht ha hn HNN
  go_enter Tryz.func49, Tryz.ntmps49
  go_wp2_with fail
  refine HC.out.mono ?_
  rintro _ _ ⟨rfl, rfl⟩
  go_wp2_with fail
  refine HT.out.mono ?_
  rintro _ _ ⟨rfl, rfl⟩
  go_wp2_with fail
  refine HA.out.mono ?_
  rintro _ _ ⟨rfl, rfl⟩
  go_wp2_with fail
  refine HN.out.mono ?_
  rintro _ w1 ⟨rfl, hB1⟩
  have hB2 := HB.out.trans (hB1.mono HB.out.size)
  have hG2 := HG.out.below hB1
  have hr2 := HR.out.belowAt hB1 (Nat.le_refl _)
  have HS := Lib.hid (aAddUp xa n cap 1000 s w1 hG2 hr2 (HF.out.fit hk))
  unfold StrPost at HS
  rw [hs, cS_zero] at HS
  clear hs hB1 hG2 hr2
  go_wp2_with fail
  refine HS.out.mono ?_
  rintro _ w2 ⟨rfl, hB3⟩
  have hB4 := hB2.trans (hB3.mono hB2.size)
  clear hB3 hB2
  go_wp2_with fail
  go_ret2
  exact ⟨rfl, hB4⟩

set_option maxRecDepth 100000 in
set_option maxHeartbeats 4000000 in
theorem aWeigh_ok (w : World) (hG : Ground w) (t : ByteArray) (xa : Option Addr) (n cap : Nat) (s : Nat → ByteArray) (hr : Rs w xa n s) (hf : FitW n t s) (h0 : 0 < n) (hk : n ≤ 1000) (ht : isCan t = true) (ha : allC n s = true) (hn : negs n s = false) (hs : sumS s n ≠ 0) :
    Calls Tryz.prog 49 #[.string t, .slice xa n cap] w fun e w' => e = .returned (.tuple #[.string (cS (sumS s n)), .int .i64 0]) ∧ Below w.heap.size w w' := by
  have hmax := hf.max
  have HC := Lib.hid (aCount n w (by omega))
  rw [show cnt n = 0 by unfold cnt; rw [if_neg (by omega), if_neg (by omega)]] at HC
  have hr1 := hr.alloc (.cells #[.string t] 22)
  have hG1 := hG.alloc (.cells #[.string t] 22)
  have hB1 : Below w.heap.size w (w.alloc (.cells #[.string t] 22)) := (Below.refl _ _).alloc (Nat.le_refl _) _
  have HT := Lib.hid (aCan _ _ 1 1 _ (Rs.one w t 22) (by decide) (fun _ _ => by have := hf.t1; omega))
  rw [allC_one] at HT
  have HR := Lib.hid hr1
  have HF := Lib.hid hf
  have HG := Lib.hid hG1
  have HB := Lib.hid hB1
  clear hf hr hr1 hG1 hB1 hG
  have HA := Lib.hid (aCan _ xa n cap s HR.out (by omega) (fun i hi => by have := HF.out.size hk i hi; omega))
  have HN := Lib.hid (hasNeg _ HG.out xa n cap s HR.out (by omega) (fun i => decide (vS (s i) < 0)) (fun i hi W _ => aNeg (by have := HF.out.size hk i hi; omega) rfl W))
  have HNN : Hid (_ = _) := Lib.hid (show (List.range n).any (fun i => decide (vS (s i) < 0)) = negs n s from rfl)
  rw [HNN.out] at HN
  rw [ht] at HT
  rw [ha] at HA
  rw [hn] at HN
  clear ht ha hn HNN
  obtain ⟨u, hu⟩ : ∃ u, cS (sumS s n) = u := ⟨_, rfl⟩
  have HE := Lib.hid (show (u.toList == []) = false by rw [← hu, cS_beq_nil]; exact decide_eq_false hs)
  have HU := Lib.hid hu
  rw [hu]
  clear hu
  go_enter Tryz.func49, Tryz.ntmps49
  go_wp2_with fail
  refine HC.out.mono ?_
  rintro _ _ ⟨rfl, rfl⟩
  go_wp2_with fail
  refine HT.out.mono ?_
  rintro _ _ ⟨rfl, rfl⟩
  go_wp2_with fail
  refine HA.out.mono ?_
  rintro _ _ ⟨rfl, rfl⟩
  go_wp2_with fail
  refine HN.out.mono ?_
  rintro _ w1 ⟨rfl, hB1⟩
  have hB2 := HB.out.trans (hB1.mono HB.out.size)
  have hG2 := HG.out.below hB1
  have hr2 := HR.out.belowAt hB1 (Nat.le_refl _)
  have HS := Lib.hid (aAddUp xa n cap 1000 s w1 hG2 hr2 (HF.out.fit hk))
  have hne := HE.out
  unfold StrPost at HS
  rw [HU.out] at HS
  clear hs hB1 hG2 hr2 HE
  go_wp2_with fail
  refine HS.out.mono ?_
  rintro _ w2 ⟨rfl, hB3⟩
  have hB4 := hB2.trans (hB3.mono hB2.size)
  clear hB3 hB2
  go_wp2_with fail
  go_ret2
  exact ⟨rfl, hB4⟩

/-- weigh: why not, or the sum -/
theorem aWeigh (w : World) (hG : Ground w) (t : ByteArray) (xa : Option Addr) (n cap : Nat) (s : Nat → ByteArray) (hr : Rs w xa n s) (hf : FitW n t s) :
    Calls Tryz.prog 49 #[.string t, .slice xa n cap] w fun e w' => e = .returned (.tuple #[.string (if weighE t n s = 0 then cS (sumS s n) else ⟨#[]⟩), .int .i64 (weighE t n s)]) ∧ Below w.heap.size w w' := by
  unfold weighE
  by_cases h0 : n = 0
  · rw [if_pos h0]
    subst h0
    exact aWeigh_cnt w t xa 0 cap 11 rfl rfl (by decide)
  rw [if_neg h0]
  by_cases h1 : 1000 < n
  · rw [if_pos h1]
    exact aWeigh_cnt w t xa n cap 4 (by unfold cnt; rw [if_neg h0, if_pos h1]) rfl hf.max
  rw [if_neg h1]
  cases ht : isCan t with
  | false => rw [if_pos (Or.inl rfl)]; exact aWeigh_can w hG t xa n cap s hr hf (by omega) (by omega) ht
  | true =>
    cases ha : allC n s with
    | false => rw [if_pos (Or.inr (Or.inl rfl))]; exact aWeigh_all w hG t xa n cap s hr hf (by omega) (by omega) ht ha
    | true =>
      cases hn : negs n s with
      | true => rw [if_pos (Or.inr (Or.inr rfl))]; exact aWeigh_neg w hG t xa n cap s hr hf (by omega) (by omega) ht ha hn
      | false =>
        rw [if_neg (show ¬(true = false ∨ true = false ∨ false = true) by simp)]
        by_cases hs : sumS s n = 0
        · rw [if_pos hs]; exact aWeigh_div w hG t xa n cap s hr hf (by omega) (by omega) ht ha hn hs
        · rw [if_neg hs]; exact aWeigh_ok w hG t xa n cap s hr hf (by omega) (by omega) ht ha hn hs

end Go.Proofs.YthhihdihkddakaaGreatDoor

/- slices.SortStableFunc of places by their remainders, at 19 places or fewer; allocate.ordered: the walks. -/
namespace Go.Proofs.YthhihdihkddakaaGreatDoor
open Go.RowKit Go.Shelf

/-- the remainders lie in block R, and box B holds their slice -/
structure Rems (W : World) (B R n : Nat) (r : Nat → Nat) : Prop where
  box : W.cell? ⟨B, 0, none⟩ = some (.slice (some ⟨R, 0, none⟩) n n)
  row : RowC W R 22 n fun k => .string (cS (r k : Nat))
  few : n ≤ 2000
  size : ∀ k, k < n → (cS (r k : Nat)).size ≤ 4294967295
theorem Rems.below {β : Nat} {W W' : World} {B R n : Nat} {r : Nat → Nat} (h : Rems W B R n r) (hb : Below β W W') (h1 : B < β) (h2 : R < β) : Rems W' B R n r :=
  ⟨(hb.cell (p := ⟨B, 0, none⟩) h1).trans h.box, h.row.below hb h2, h.few, h.size⟩

set_option maxRecDepth 100000 in
set_option maxHeartbeats 4000000 in
theorem aByRem (W : World) (B R n i j : Nat) (r : Nat → Nat) (h : Rems W B R n r) (hi : i < n) (hj : j < n) :
    Calls Tryz.prog 103 #[.int .i64 (i : Int), .int .i64 (j : Int), .pointer (some ⟨B, 0, none⟩)] W fun e W' =>
      (∃ c : Int, e = .returned (.int .i64 c) ∧ decide (c < 0) = decide (r j < r i)) ∧ Below W.heap.size W W' := by
  have hn := h.few
  obtain ⟨c, hc⟩ : ∃ c, cmp3 (r j : Int) (r i : Int) = c := ⟨_, rfl⟩
  have HD := Lib.hid (show decide (c < 0) = decide (r j < r i) by
    rw [← hc]
    unfold cmp3
    split
    · rw [decide_eq_true (by decide), decide_eq_true (by omega)]
    · split
      · rw [decide_eq_false (by decide), decide_eq_false (by omega)]
      · rw [decide_eq_false (by decide), decide_eq_false (by omega)])
  have HC := Lib.hid (fun W => compare_v W (h.size j hj) (h.size i hi) (vS_cS _) (vS_cS _) hc)
  have l1 := h.box
  have lB : B < W.heap.size := World.block_lt_of_cell? W ⟨B, 0, none⟩ h.box
  have lR : R < W.heap.size := h.row.lt
  have l2 := h.row.cell hi
  have l3 := h.row.cell hj
  obtain ⟨si, hsi⟩ : ∃ s, cS (r i : Nat) = s := ⟨_, rfl⟩
  obtain ⟨sj, hsj⟩ : ∃ s, cS (r j : Nat) = s := ⟨_, rfl⟩
  simp only [hsi, hsj] at l2 l3 HC
  clear h hc hsi hsj
  go_enter Tryz.func103, Tryz.ntmps103
  go_wp2_with fail
  go_region_held3 (fun w' => w'.cell? ⟨B, 0, none⟩ = some (.slice (some ⟨R, 0, none⟩) n n) ∧ w'.cell? ⟨R, i, none⟩ = some (.string si) ∧ w'.cell? ⟨R, j, none⟩ = some (.string sj))
    (go_keep)
    (first
    | (go_at_call 33;
         (refine (HC.out _).mono ?_);
         (rintro e WX ⟨rfl, hB1⟩);
         (have m1 := (hB1.cell (p := ⟨B, 0, none⟩) lB).trans l1);
         (have m2 := (hB1.cell (p := ⟨R, i, none⟩) lR).trans l2);
         (have m3 := (hB1.cell (p := ⟨R, j, none⟩) lR).trans l3);
         (have HB1 := Lib.hid hB1);
         (clear hB1)))
  all_goals go_wp2_with fail
  all_goals go_ret
  all_goals exact ⟨⟨c, rfl, HD.out⟩, by first | exact HB1.out | exact (below_drewN (Below.refl _ _) _).trans (HB1.out.mono (Nat.le_refl _))⟩

/-- the places in block D, all that lay below it as it lay -/
structure SortW (w : World) (D n : Nat) (d : Nat → Nat) (wr : World) : Prop where
  row : RowC wr D 3 n fun k => .int .i64 (d k : Nat)
  below : Below D w wr
theorem SortW.next {w : World} {D n : Nat} {d : Nat → Nat} {wr wx : World} (h : SortW w D n d wr) (hb : Below wr.heap.size wr wx) : SortW w D n d wx :=
  ⟨h.row.below hb h.row.lt, h.below.trans (hb.mono (Nat.le_of_lt h.row.lt))⟩
theorem SortW.drewN {w : World} {D n : Nat} {d : Nat → Nat} {wr : World} (h : SortW w D n d wr) (q : Nat) : SortW w D n d (wr.drewN q) := ⟨h.row, below_drewN h.below q⟩
/-- d, with what stands at j and at j + 1 exchanged -/
def swp2 (d : Nat → Nat) (j : Nat) : Nat → Nat := fun p => if p = j then d (j + 1) else if p = j + 1 then d j else d p
theorem SortW.swap {w : World} {D n : Nat} {d : Nat → Nat} {wr : World} (h : SortW w D n d wr) (j : Nat) :
    SortW w D n (swp2 d j) ((wr.setCell ⟨D, j + 1, none⟩ (.int .i64 (d j : Nat))).setCell ⟨D, j, none⟩ (.int .i64 (d (j + 1) : Nat))).drew := by
  refine ⟨?_, ?_⟩
  · show RowC _ D 3 n _
    have h1 := (h.row.set (j + 1) (.int .i64 (d j : Nat))).set j (.int .i64 (d (j + 1) : Nat))
    refine RowC.congr (w := (wr.setCell ⟨D, j + 1, none⟩ (.int .i64 (d j : Nat))).setCell ⟨D, j, none⟩ (.int .i64 (d (j + 1) : Nat))) h1 fun k _ => ?_
    unfold swp2 upd
    by_cases e : k = j
    · rw [if_pos e, if_pos e]
    · rw [if_neg e, if_neg e]
      by_cases f : k = j + 1
      · rw [if_pos f, if_pos f]
      · rw [if_neg f, if_neg f]
  · exact below_drewN (((h.below.setCell (p := ⟨D, j + 1, none⟩) (Nat.le_refl _) _).setCell (p := ⟨D, j, none⟩) (Nat.le_refl _) _)) 1

set_option maxRecDepth 1000000 in
set_option maxHeartbeats 16000000 in
theorem aInsert (w : World) (D B R n : Nat) (r : Nat → Nat) (h : Rems w B R n r) (hn1 : 1 ≤ n) (hBD : B < D) (hRD : R < D) (hD : SortW w D n (fun k => k) w) :
    Calls Tryz.prog 188 #[.slice (some ⟨D, 0, none⟩) n n, .int .i64 0, .int .i64 (n : Int), .func (.func 103) #[] #[.pointer (some ⟨B, 0, none⟩)]] w fun e w' =>
      e = .returned (.tuple #[]) ∧ ∃ d, Num.Sorted r n d ∧ SortW w D n d w' := by
  have hn := h.few
  have HR := Lib.hid h
  have S0 := Lib.hid hD
  have mixed : Tryz.prog.follows .mixedOrders = true := by kernel_rfl
  clear h hD
  go_enter Tryz.func188, Tryz.ntmps188
  go_wp2
  go_loopg [8] n (fun g1 vi wr => ∃ (i : Nat) (d : Nat → Nat), vi = .int .i64 i ∧ 1 ≤ i ∧ i ≤ n ∧ n + 1 - i ≤ g1 + 1 ∧ Hid (Num.Outer r n i d) ∧ Hid (SortW w D n d wr))
  case atStart => exact ⟨1, fun k => k, by go_num, by omega, by omega, by omega, Lib.hid (Num.Outer.start r n), S0⟩
  case round =>
    clear S0
    obtain ⟨i, d0, rfl, hi1, hin, hg1, HO, S1⟩ := hrel
    by_cases hlt : i < n
    · have hltz : (i : Int) < (n : Int) := by omega
      have HI0 := Lib.hid (HO.out.inner hlt)
      go_wp2
      go_loopg [9] i (fun g2 vj wr2 => ∃ (j : Nat) (d : Nat → Nat), vj = .int .i64 j ∧ j ≤ i ∧ j ≤ g2 ∧ Hid (Num.Inner r n i j d) ∧ Hid (SortW w D n d wr2))
      case atStart => exact ⟨i, d0, rfl, Nat.le_refl _, Nat.le_refl _, HI0, S1⟩
      case round =>
        clear S1 HI0
        obtain ⟨j, d, rfl, hji, hg2, HI, SJ⟩ := hrel
        by_cases hja : 0 < j
        · obtain ⟨jp, rfl⟩ : ∃ q, j = q + 1 := ⟨j - 1, by omega⟩
          have e1 : (((jp + 1 : Nat) : Int)) = (jp : Int) + 1 := by omega
          have pa : (0 : Int) ≤ (jp : Int) + 1 := by omega
          have pg : (0 : Int) < (jp : Int) + 1 := by omega
          have ba : (jp : Int) + 1 < (n : Int) := by omega
          have wa : IntKind.i64.wrap ((jp : Int) + 1 - 1) = (jp : Int) := by rw [IntKind.wrap_i64]; omega
          have wc : IntKind.i64.wrap (jp : Int) = (jp : Int) := by rw [IntKind.wrap_i64]; omega
          have pc : (0 : Int) ≤ (jp : Int) := by omega
          have bc : (jp : Int) < (n : Int) := by omega
          obtain ⟨iN, hiN⟩ : ∃ q, q = jp + 1 := ⟨_, rfl⟩
          have ea : ((jp : Int) + 1).toNat = iN := by omega
          obtain ⟨x, hx⟩ : ∃ x, d (jp + 1) = x := ⟨_, rfl⟩
          obtain ⟨y, hy⟩ : ∃ y, d jp = y := ⟨_, rfl⟩
          have hxi : x = i := by rw [← hx]; exact HI.out.at_
          have hyi : y < i := by rw [← hy]; exact HI.out.lt jp (by omega) (by omega)
          have HC := Lib.hid (fun W hR => aByRem W B R n x y r hR (by omega) (by omega))
          have c1 := SJ.out.row.cell (i := jp + 1) (by omega)
          have c2 := SJ.out.row.cell (i := jp) (by omega)
          have lD := SJ.out.row.lt
          rw [hx, ← hiN] at c1
          rw [hy] at c2
          have HX := Lib.hid hx
          have HY := Lib.hid hy
          have HN := Lib.hid hiN
          have HXI := Lib.hid hxi
          have HR2 := Lib.hid (fun q => (HR.out.below (SJ.out.drewN q).below hBD hRD))
          have HR3 := Lib.hid (HR.out.below SJ.out.below hBD hRD)
          clear hx hy hiN hxi hyi
          by_cases ht : r y < r x
          · have HT := Lib.hid ht
            go_wp2_with fail
            go_region_held3 (fun w' => w'.cell? ⟨D, iN, none⟩ = some (.int .i64 x) ∧ w'.cell? ⟨D, jp, none⟩ = some (.int .i64 y))
              (go_keep)
              (first
              | (go_at_call 103;
                   (first | refine (HC.out _ HR3.out).mono ?_ | refine (HC.out _ (HR2.out _)).mono ?_);
                   (rintro e WX ⟨⟨c, rfl, hcd⟩, hB1⟩);
                   (have m1 := (hB1.cell (p := ⟨D, iN, none⟩) lD).trans c1);
                   (have m2 := (hB1.cell (p := ⟨D, jp, none⟩) lD).trans c2);
                   (rw [decide_eq_true HT.out] at hcd);
                   (have hcl : c < 0 := of_decide_eq_true hcd);
                   (have S2 := Lib.hid (show SortW w D n d WX from by first | exact SJ.out.next hB1 | exact (SJ.out.drewN _).next hB1));
                   (clear hB1)))
            have HS := Lib.hid (HI.out.swap (by rw [HY.out, ← HXI.out]; exact ht))
            have S3 := S2.out.swap jp
            rw [HX.out, HY.out, ← HN.out] at S3
            have HS3 := Lib.hid S3
            have f1 := S2.out.row.frozen iN
            have f2 := S2.out.row.frozen jp
            have c3 := (World.cell?_setCell_other WX ⟨D, iN, none⟩ ⟨D, jp, none⟩ (.int .i64 (y : Int)) (by intro e; simp only [Addr.mk.injEq] at e; have := HN.out; omega)).trans m2
            clear c1 c2 ht hcd S3 HC HR2 HR3
            go_wp2_with fail
            go_big_region_o
            clear m1 m2 f1 f2 c3 S2
            revert HS3
            generalize ((WX.setCell ⟨D, iN, none⟩ (.int .i64 (y : Int))).setCell ⟨D, jp, none⟩ (.int .i64 (x : Int))).drew = w3
            intro HS3
            clear ea
            go_wp2
            go_roundg jp
            case measure => omega
            case rel => exact ⟨jp, swp2 d jp, by first | rfl | go_num | (congr 1; omega), by omega, Nat.le_refl _, HS, HS3⟩
          · have HT := Lib.hid ht
            go_wp2_with fail
            go_region_held3 (fun w' => w'.cell? ⟨D, iN, none⟩ = some (.int .i64 x) ∧ w'.cell? ⟨D, jp, none⟩ = some (.int .i64 y))
              (go_keep)
              (first
              | (go_at_call 103;
                   (first | refine (HC.out _ HR3.out).mono ?_ | refine (HC.out _ (HR2.out _)).mono ?_);
                   (rintro e WX ⟨⟨c, rfl, hcd⟩, hB1⟩);
                   (have m1 := (hB1.cell (p := ⟨D, iN, none⟩) lD).trans c1);
                   (have m2 := (hB1.cell (p := ⟨D, jp, none⟩) lD).trans c2);
                   (rw [decide_eq_false HT.out] at hcd);
                   (have hcl : ¬ c < 0 := of_decide_eq_false hcd);
                   (have S2 := Lib.hid (show SortW w D n d WX from by first | exact SJ.out.next hB1 | exact (SJ.out.drewN _).next hB1));
                   (clear hB1)))
            have HS := Lib.hid (HI.out.done (fun k hk => by have e : k = jp := (by omega); rw [e, HY.out, ← HXI.out]; exact ht))
            clear m1 m2 c1 c2 ht hcd HC HR2 HR3 ea
            go_wp2
            go_roundg (n - (i + 1))
            case measure => omega
            case rel => exact ⟨i + 1, d, by go_num, by omega, by omega, by omega, HS, S2⟩
        · obtain rfl : j = 0 := by omega
          go_wp2_with fail
          go_big_region_o
          have HS := Lib.hid (HI.out.done (fun k hk => by omega))
          have S2 := Lib.hid (SJ.out.drewN 1)
          clear SJ
          go_wp2
          go_roundg (n - (i + 1))
          case measure => omega
          case rel => exact ⟨i + 1, d, by go_num, by omega, by omega, by omega, HS, S2⟩
    · obtain rfl : i = n := by omega
      have hltz : ¬ (i : Int) < (i : Int) := by omega
      go_wp2
      go_end0
      exact ⟨rfl, d0, HO.out.sorted (Nat.le_refl _) (Nat.le_refl _), S1.out⟩

end Go.Proofs.YthhihdihkddakaaGreatDoor
