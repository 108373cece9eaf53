/- The reference of layer 5: Code, Check, Amount: the walks. -/
import Derived.Test.YtahnkmkmoalbhaaGreatDoorZAC
import Derived.Test.YtahnkmkmoalbhaaGreatDoorZAE
import Derived.Test.YtahnkmkmoalbhaaGreatDoorZAG
namespace Go.Proofs.YtahnkmkmoalbhaaGreatDoor
open Go.RowKit

set_option maxRecDepth 100000 in
set_option maxHeartbeats 8000000 in
theorem rCode (s : ByteArray) (w : World) (hs : s.size ≤ 1000000) :
    Calls Tryz.prog 49 #[.string s] w fun e w' => e = .returned (.bool (codeS s)) ∧ w = w' := by
  go_enter Tryz.func49, Tryz.ntmps49
  go_wp2_with fail
  go_loop [3] (fun i => ∃ k : Nat, k ≤ s.size ∧ i = .int .i64 k ∧ (s.data.toList.take k).all isLet = true) (fun i => s.size - (intOf i).toNat)
  case atStart => exact ⟨0, Nat.zero_le _, rfl, rfl⟩
  case round =>
    obtain ⟨k, hk, rfl, ha⟩ := hrel
    have HA := Lib.hid ha
    clear ha
    by_cases hlt : k < s.size
    · have hlt' : k < s.data.toList.length := by rw [size_toList]; exact hlt
      have HB := Lib.hid (byte_at s k hlt hlt')
      by_cases b1 : ((s[k]'hlt).toNat : Int) < 65
      · have HE := Lib.hid (show codeS s = false by
          unfold codeS
          rw [not_all_here hlt' (by rw [HB.out]; unfold isLet; exact decide_eq_false (by omega))]; rfl)
        clear HB hlt' HA
        go_wp2
        go_ret
        exact ⟨by rw [HE.out]; rfl, rfl⟩
      · by_cases b2 : 90 < ((s[k]'hlt).toNat : Int)
        · have HE := Lib.hid (show codeS s = false by
            unfold codeS
            rw [not_all_here hlt' (by rw [HB.out]; unfold isLet; exact decide_eq_false (by omega))]; rfl)
          clear HB hlt' HA
          go_wp2
          go_ret
          exact ⟨by rw [HE.out]; rfl, rfl⟩
        · have H := Lib.hid (all_take_next HA.out hlt' (by rw [HB.out]; unfold isLet; exact decide_eq_true (by omega)))
          clear HB hlt' HA
          go_wp2
          go_round
          case rel => exact ⟨k + 1, by omega, by go_num, H.out⟩
          case measure => simp [intOf]; omega
    · have HE := Lib.hid (show codeS s = decide (s.size = 3) by
        unfold codeS
        have := HA.out
        rw [List.take_of_length_le (by rw [size_toList]; omega)] at this
        rw [this]; rfl)
      clear HA
      go_wp2
      go_ret
      exact ⟨congrArg (fun b => Ending.returned (Value.bool b)) (show ((s.size : Int) == 3) = codeS s by rw [HE.out, Bool.eq_iff_iff]; simp; omega), rfl⟩

/-- amounts to be read: n of them, not long -/
structure FitB (n : Nat) (u v : Nat → ByteArray) : Prop where
  max : n ≤ 100000
  code : ∀ i, i < n → (u i).size ≤ 1000
  num : ∀ i, i < n → (v i).size ≤ 1000
set_option maxRecDepth 100000 in
set_option maxHeartbeats 8000000 in
theorem rBag_many (w : World) (xa : Option Addr) (n cap : Nat) (h : 16 < n) :
    Calls Tryz.prog 25 #[.slice xa n cap] w fun e w' => e = .returned (.int .i64 4) ∧ ∃ q, w' = w.drewN q := by
  have hi : (16 : Int) < n := by omega
  clear h
  go_enter Tryz.func25, Tryz.ntmps25
  go_wp2_with fail
  go_ret
  exact ⟨rfl, 0, rfl⟩
set_option maxRecDepth 100000 in
set_option maxHeartbeats 16000000 in
theorem rBag_few (w : World) (xa : Option Addr) (n cap : Nat) (u v : Nat → ByteArray) (hr : Rf w xa n u v) (hf : FitB n u v) (hn : n ≤ 16) :
    Calls Tryz.prog 25 #[.slice xa n cap] w fun e w' => e = .returned (.int .i64 (firstE (bagAt isCan u v) n)) ∧ ∃ q, w' = w.drewN q := by
  have hi : ¬ (16 : Int) < n := by omega
  have HR := Lib.hid hr
  have HF := Lib.hid hf
  clear hr hf
  go_enter Tryz.func25, Tryz.ntmps25
  go_wp2_with fail
  go_loopw [3] (fun iv wr => ∃ k : Nat, k ≤ n ∧ iv = .int .i64 (k : Int) ∧ Hid (∀ i, i < k → bagAt isCan u v i = 0) ∧ ∃ q, wr = w.drewN q) (fun iv _ => n - (intOf iv).toNat)
  case atStart => exact ⟨0, Nat.zero_le _, rfl, Lib.hid (fun i hi => absurd hi (by omega)), 0, rfl⟩
  case round =>
    obtain ⟨k, hk, rfl, HA, q, rfl⟩ := hrel
    have hw1 : IntKind.i64.wrap ((k : Int) + 1) = (k : Int) + 1 := IntWalk.i64_in _ (by omega)
    by_cases hlt : k < n
    · obtain ⟨b, o, rfl, hb, z1, z2⟩ := Rf.at HR.out hlt
      have hsu := HF.out.code k hlt
      have hsv := HF.out.num k hlt
      have HCO := Lib.hid (fun W => rCode (u k) W (by omega))
      have HCK := Lib.hid (fun W => rCheck_any (v k) W (by omega))
      cases h1 : codeS (u k) with
      | false =>
        have HE := Lib.hid (show firstE (bagAt isCan u v) n = 23 by
          have hz : bagAt isCan u v k = 23 := by unfold bagAt; rw [if_pos h1]
          rw [firstE_at (by rw [hz]; decide) HA.out hlt, hz])
        rw [h1] at HCO
        obtain ⟨uk, huk⟩ : ∃ x, u k = x := ⟨_, rfl⟩
        rw [huk] at z1 HCO
        clear h1 huk HCK hsu hsv HA
        go_wp2_with fail
        refine (HCO.out _).mono ?_
        rintro _ _ ⟨rfl, rfl⟩
        go_wp2_with fail
        go_ret
        exact ⟨by rw [HE.out]; rfl, q, rfl⟩
      | true =>
        rw [h1] at HCO
        cases h2 : isCan (v k) with
        | false =>
          have HE := Lib.hid (show firstE (bagAt isCan u v) n = 1 by
            have hz : bagAt isCan u v k = 1 := by unfold bagAt; rw [if_neg (by rw [h1]; decide), if_pos h2]
            rw [firstE_at (by rw [hz]; decide) HA.out hlt, hz])
          rw [show chk (v k) = 1 by unfold chk; rw [h2]; rfl] at HCK
          obtain ⟨uk, huk⟩ : ∃ x, u k = x := ⟨_, rfl⟩
          obtain ⟨vk, hvk⟩ : ∃ x, v k = x := ⟨_, rfl⟩
          rw [huk] at z1 HCO
          rw [hvk] at z2 HCK
          clear h1 h2 huk hvk hsu hsv HA
          go_wp2_with fail
          refine (HCO.out _).mono ?_
          rintro _ _ ⟨rfl, rfl⟩
          go_wp2_with fail
          refine (HCK.out _).mono ?_
          rintro _ _ ⟨rfl, rfl⟩
          go_wp2_with fail
          go_ret
          exact ⟨by rw [HE.out]; rfl, q, rfl⟩
        | true =>
          rw [show chk (v k) = 0 by unfold chk; rw [h2]; rfl] at HCK
          by_cases h3 : v k = ⟨#[]⟩
          · have HE := Lib.hid (show firstE (bagAt isCan u v) n = 11 by
              have hz : bagAt isCan u v k = 11 := by unfold bagAt; rw [if_neg (by rw [h1]; decide), if_neg (by rw [h2]; decide), if_pos h3]
              rw [firstE_at (by rw [hz]; decide) HA.out hlt, hz])
            obtain ⟨uk, huk⟩ : ∃ x, u k = x := ⟨_, rfl⟩
            rw [huk] at z1 HCO
            rw [h3] at z2 HCK
            clear h1 h2 h3 huk hsu hsv HA
            go_wp2_with fail
            refine (HCO.out _).mono ?_
            rintro _ _ ⟨rfl, rfl⟩
            go_wp2_with fail
            refine (HCK.out _).mono ?_
            rintro _ _ ⟨rfl, rfl⟩
            go_wp2_with fail
            go_ret
            exact ⟨by rw [HE.out]; rfl, q, rfl⟩
          · have hne : ((v k).toList == []) = false := by
              rw [show ([] : List UInt8) = (ByteArray.mk #[]).toList by decide +kernel, beq_toList]
              exact decide_eq_false h3
            by_cases h0 : k = 0
            · have HN := Lib.hid (show ∀ i, i < k + 1 → bagAt isCan u v i = 0 from fun i hi => by
                obtain rfl : i = k := by omega
                unfold bagAt
                rw [if_neg (by rw [h1]; decide), if_neg (by rw [h2]; decide), if_neg h3, if_neg (by omega)])
              obtain ⟨uk, huk⟩ : ∃ x, u k = x := ⟨_, rfl⟩
              obtain ⟨vk, hvk⟩ : ∃ x, v k = x := ⟨_, rfl⟩
              rw [huk] at z1 HCO
              rw [hvk] at z2 HCK hne
              have hk0 : ¬ (0 : Int) < (k : Int) := by omega
              clear h0 h1 h2 h3 huk hvk hsu hsv HA
              go_wp2_with fail
              refine (HCO.out _).mono ?_
              rintro _ _ ⟨rfl, rfl⟩
              go_wp2_with fail
              refine (HCK.out _).mono ?_
              rintro _ _ ⟨rfl, rfl⟩
              go_wp2_with fail
              refine wp_region_held_drew (S := fun _ => True) (by kernel_rfl) (by exact True.intro) (fun hHeld => ?_)
              refine wpAnyH_take (i := 0) (oi := { dst := some 33, op := Op.move (Operand.tmp 3), type := 3, pos := "ref.go:66", after := #[], guard := none }) (v := ?_) rfl (by kernel_rfl) (by kernel_rfl) (by kernel_rfl) (fun _ _ _ h => h) (Or.inl ⟨by rfl, ?_⟩) (by assumption) ?_
              rotate_left
              focus ((intro w hSw; (try dsimp only at hSw); go_simp); (try with_reducible rfl))
              try simp only [Act.put, List.setIfInBounds_toArray, List.set_cons_zero, List.set_cons_succ]
              refine wpAnyH_take (i := 1) (oi := { dst := some 34, op := Op.binOp BinOp.gtr 3 (Operand.tmp 33) (Operand.const (Value.int IntKind.i64 0)) 3, type := 4, pos := "ref.go:66", after := #[{ on := 0, ground := Ground.data }], guard := none }) (v := .bool false) rfl (by kernel_rfl) (by kernel_rfl) (by kernel_rfl) (fun _ _ _ h => h) (Or.inl ⟨by rfl, ?_⟩) (by assumption) ?_
              focus ((intro w hSw; (try dsimp only at hSw); go_simp); first | rfl | omega)
              try simp only [Act.put, List.setIfInBounds_toArray, List.set_cons_zero, List.set_cons_succ]
              refine wpAnyH_take (i := 2) (oi := { dst := some 35, op := Op.move (Operand.tmp 34), type := 4, pos := "ref.go:66", after := #[{ on := 1, ground := Ground.data }], guard := none }) (v := ?_) rfl (by kernel_rfl) (by kernel_rfl) (by kernel_rfl) (fun _ _ _ h => h) (Or.inl ⟨by rfl, ?_⟩) (by assumption) ?_
              rotate_left
              focus ((intro w hSw; (try dsimp only at hSw); go_simp); (try with_reducible rfl))
              try simp only [Act.put, List.setIfInBounds_toArray, List.set_cons_zero, List.set_cons_succ]
              refine wpAnyH_take (i := 3) (oi := { dst := some 36, op := Op.move (Operand.tmp 0), type := 32, pos := "ref.go:66", after := #[{ on := 2, ground := Ground.guard }], guard := some (2, true) }) (v := undef) rfl (by kernel_rfl) (by kernel_rfl) (by kernel_rfl) (fun _ _ _ h => h) (Or.inr ⟨by rfl, rfl⟩) (by assumption) ?_
              try simp only [Act.put, List.setIfInBounds_toArray, List.set_cons_zero, List.set_cons_succ]
              refine wpAnyH_take (i := 4) (oi := { dst := some 37, op := Op.move (Operand.tmp 3), type := 3, pos := "ref.go:66", after := #[{ on := 2, ground := Ground.guard }], guard := some (2, true) }) (v := undef) rfl (by kernel_rfl) (by kernel_rfl) (by kernel_rfl) (fun _ _ _ h => h) (Or.inr ⟨by rfl, rfl⟩) (by assumption) ?_
              try simp only [Act.put, List.setIfInBounds_toArray, List.set_cons_zero, List.set_cons_succ]
              refine wpAnyH_take (i := 5) (oi := { dst := some 38, op := Op.indexAddr 32 (Operand.tmp 36) (Operand.tmp 37), type := 0, pos := "ref.go:66", after := #[{ on := 3, ground := Ground.data }, { on := 4, ground := Ground.data }, { on := 2, ground := Ground.guard }], guard := some (2, true) }) (v := undef) rfl (by kernel_rfl) (by kernel_rfl) (by kernel_rfl) (fun _ _ _ h => h) (Or.inr ⟨by rfl, rfl⟩) (by assumption) ?_
              try simp only [Act.put, List.setIfInBounds_toArray, List.set_cons_zero, List.set_cons_succ]
              refine wpAnyH_take (i := 6) (oi := { dst := some 39, op := Op.fieldAddr 35 (Operand.tmp 38) 0, type := 0, pos := "ref.go:66", after := #[{ on := 5, ground := Ground.data }, { on := 2, ground := Ground.guard }], guard := some (2, true) }) (v := undef) rfl (by kernel_rfl) (by kernel_rfl) (by kernel_rfl) (fun _ _ _ h => h) (Or.inr ⟨by rfl, rfl⟩) (by assumption) ?_
              try simp only [Act.put, List.setIfInBounds_toArray, List.set_cons_zero, List.set_cons_succ]
              refine wpAnyH_take (i := 7) (oi := { dst := some 40, op := Op.load 9 (Operand.tmp 39), type := 9, pos := "ref.go:66", after := #[{ on := 6, ground := Ground.data }, { on := 2, ground := Ground.guard }], guard := some (2, true) }) (v := undef) rfl (by kernel_rfl) (by kernel_rfl) (by kernel_rfl) (fun _ _ _ h => h) (Or.inr ⟨by rfl, rfl⟩) (by assumption) ?_
              try simp only [Act.put, List.setIfInBounds_toArray, List.set_cons_zero, List.set_cons_succ]
              refine wpAnyH_take (i := 8) (oi := { dst := some 41, op := Op.move (Operand.tmp 0), type := 32, pos := "ref.go:66", after := #[{ on := 2, ground := Ground.guard }], guard := some (2, true) }) (v := undef) rfl (by kernel_rfl) (by kernel_rfl) (by kernel_rfl) (fun _ _ _ h => h) (Or.inr ⟨by rfl, rfl⟩) (by assumption) ?_
              try simp only [Act.put, List.setIfInBounds_toArray, List.set_cons_zero, List.set_cons_succ]
              refine wpAnyH_take (i := 9) (oi := { dst := some 42, op := Op.move (Operand.tmp 3), type := 3, pos := "ref.go:66", after := #[{ on := 2, ground := Ground.guard }], guard := some (2, true) }) (v := undef) rfl (by kernel_rfl) (by kernel_rfl) (by kernel_rfl) (fun _ _ _ h => h) (Or.inr ⟨by rfl, rfl⟩) (by assumption) ?_
              try simp only [Act.put, List.setIfInBounds_toArray, List.set_cons_zero, List.set_cons_succ]
              refine wpAnyH_take (i := 10) (oi := { dst := some 43, op := Op.binOp BinOp.sub 3 (Operand.tmp 42) (Operand.const (Value.int IntKind.i64 1)) 3, type := 3, pos := "ref.go:66", after := #[{ on := 9, ground := Ground.data }, { on := 2, ground := Ground.guard }], guard := some (2, true) }) (v := undef) rfl (by kernel_rfl) (by kernel_rfl) (by kernel_rfl) (fun _ _ _ h => h) (Or.inr ⟨by rfl, rfl⟩) (by assumption) ?_
              try simp only [Act.put, List.setIfInBounds_toArray, List.set_cons_zero, List.set_cons_succ]
              refine wpAnyH_take (i := 11) (oi := { dst := some 44, op := Op.indexAddr 32 (Operand.tmp 41) (Operand.tmp 43), type := 0, pos := "ref.go:66", after := #[{ on := 8, ground := Ground.data }, { on := 10, ground := Ground.data }, { on := 2, ground := Ground.guard }], guard := some (2, true) }) (v := undef) rfl (by kernel_rfl) (by kernel_rfl) (by kernel_rfl) (fun _ _ _ h => h) (Or.inr ⟨by rfl, rfl⟩) (by assumption) ?_
              try simp only [Act.put, List.setIfInBounds_toArray, List.set_cons_zero, List.set_cons_succ]
              refine wpAnyH_take (i := 12) (oi := { dst := some 45, op := Op.fieldAddr 35 (Operand.tmp 44) 0, type := 0, pos := "ref.go:66", after := #[{ on := 11, ground := Ground.data }, { on := 2, ground := Ground.guard }], guard := some (2, true) }) (v := undef) rfl (by kernel_rfl) (by kernel_rfl) (by kernel_rfl) (fun _ _ _ h => h) (Or.inr ⟨by rfl, rfl⟩) (by assumption) ?_
              try simp only [Act.put, List.setIfInBounds_toArray, List.set_cons_zero, List.set_cons_succ]
              refine wpAnyH_take (i := 13) (oi := { dst := some 46, op := Op.load 9 (Operand.tmp 45), type := 9, pos := "ref.go:66", after := #[{ on := 12, ground := Ground.data }, { on := 2, ground := Ground.guard }], guard := some (2, true) }) (v := undef) rfl (by kernel_rfl) (by kernel_rfl) (by kernel_rfl) (fun _ _ _ h => h) (Or.inr ⟨by rfl, rfl⟩) (by assumption) ?_
              try simp only [Act.put, List.setIfInBounds_toArray, List.set_cons_zero, List.set_cons_succ]
              refine wpAnyH_take (i := 14) (oi := { dst := some 47, op := Op.binOp BinOp.leq 9 (Operand.tmp 40) (Operand.tmp 46) 9, type := 4, pos := "ref.go:66", after := #[{ on := 7, ground := Ground.data }, { on := 13, ground := Ground.data }, { on := 2, ground := Ground.guard }], guard := some (2, true) }) (v := undef) rfl (by kernel_rfl) (by kernel_rfl) (by kernel_rfl) (fun _ _ _ h => h) (Or.inr ⟨by rfl, rfl⟩) (by assumption) ?_
              try simp only [Act.put, List.setIfInBounds_toArray, List.set_cons_zero, List.set_cons_succ]
              refine wpAnyH_take (i := 15) (oi := { dst := some 48, op := Op.pick (Operand.tmp 35) (Operand.tmp 47) (Operand.const (Value.bool false)), type := 4, pos := "ref.go:66", after := #[{ on := 2, ground := Ground.data }, { on := 14, ground := Ground.data }], guard := none }) (v := ?_) rfl (by kernel_rfl) (by kernel_rfl) (by kernel_rfl) (fun _ _ _ h => h) (Or.inl ⟨by rfl, ?_⟩) (by assumption) ?_
              rotate_left
              focus ((intro w hSw; (try dsimp only at hSw); go_simp); (try with_reducible rfl))
              try simp only [Act.put, List.setIfInBounds_toArray, List.set_cons_zero, List.set_cons_succ]
              refine wpAnyH_done (by kernel_rfl) ?_ _
              clear hHeld
              go_wp2_with fail
              go_roundw
              case rel => exact ⟨k + 1, by omega, by simp, HN, q + 1, rfl⟩
              case measure => simp [intOf]; omega
            · obtain ⟨b', o', e', _, y1, _⟩ := Rf.at HR.out (show k - 1 < n by omega)
              obtain ⟨rfl, rfl⟩ : b = b' ∧ o = o' := by injection e' with e'; injection e' with e1 e2; exact ⟨e1, e2⟩
              have hk1 : (0 : Int) < (k : Int) := by omega
              have hw2 : IntKind.i64.wrap ((k : Int) - 1) = ((k - 1 : Nat) : Int) := by rw [IntWalk.i64_in _ (by omega)]; omega
              obtain ⟨j, hj⟩ : ∃ j, k - 1 = j := ⟨_, rfl⟩
              rw [hj] at y1 hw2
              have hjn : (j : Int) < (n : Int) := by omega
              have hkn : (k : Int) < (n : Int) := by omega
              cases h4 : bl (u j) (u k) with
              | false =>
                have HE := Lib.hid (show firstE (bagAt isCan u v) n = 8 by
                  have hz : bagAt isCan u v k = 8 := by unfold bagAt; rw [if_neg (by rw [h1]; decide), if_neg (by rw [h2]; decide), if_neg h3, if_pos ⟨by omega, by rw [hj]; exact h4⟩]
                  rw [firstE_at (by rw [hz]; decide) HA.out hlt, hz])
                have hord : (Op.bytesLess (u k).toList (u j).toList || (u k).toList == (u j).toList) = true := by
                  cases g : bl (u k) (u j) with
                  | true => unfold bl at g; rw [g]; rfl
                  | false =>
                    have := bl_tri h4 g
                    rw [this]; simp
                obtain ⟨uk, huk⟩ : ∃ x, u k = x := ⟨_, rfl⟩
                obtain ⟨vk, hvk⟩ : ∃ x, v k = x := ⟨_, rfl⟩
                obtain ⟨uj, huj⟩ : ∃ x, u j = x := ⟨_, rfl⟩
                rw [huk] at z1 HCO
                rw [hvk] at z2 HCK hne
                rw [huj] at y1
                rw [huk, huj] at hord
                clear h0 h1 h2 h3 h4 huk hvk huj hsu hsv HA hj
                go_wp2_with fail
                refine (HCO.out _).mono ?_
                rintro _ _ ⟨rfl, rfl⟩
                go_wp2_with fail
                refine (HCK.out _).mono ?_
                rintro _ _ ⟨rfl, rfl⟩
                go_wp2_with fail
                refine wp_region_held_drew (S := fun w' => w'.cell? ⟨b, o + k * 2, none⟩ = some (.string uk) ∧ w'.cell? ⟨b, o + j * 2, none⟩ = some (.string uj)) (by kernel_rfl) (by (try dsimp only); go_keep) (fun hHeld => ?_)
                refine wpAnyH_take (i := 0) (oi := { dst := some 33, op := Op.move (Operand.tmp 3), type := 3, pos := "ref.go:66", after := #[], guard := none }) (v := ?_) rfl (by kernel_rfl) (by kernel_rfl) (by kernel_rfl) (fun _ _ _ h => h) (Or.inl ⟨by rfl, ?_⟩) (by assumption) ?_
                rotate_left
                focus ((intro w hSw; (try dsimp only at hSw); go_simp); (try with_reducible rfl))
                try simp only [Act.put, List.setIfInBounds_toArray, List.set_cons_zero, List.set_cons_succ]
                refine wpAnyH_take (i := 1) (oi := { dst := some 34, op := Op.binOp BinOp.gtr 3 (Operand.tmp 33) (Operand.const (Value.int IntKind.i64 0)) 3, type := 4, pos := "ref.go:66", after := #[{ on := 0, ground := Ground.data }], guard := none }) (v := .bool true) rfl (by kernel_rfl) (by kernel_rfl) (by kernel_rfl) (fun _ _ _ h => h) (Or.inl ⟨by rfl, ?_⟩) (by assumption) ?_
                focus ((intro w hSw; (try dsimp only at hSw); go_simp); first | rfl | omega)
                try simp only [Act.put, List.setIfInBounds_toArray, List.set_cons_zero, List.set_cons_succ]
                refine wpAnyH_take (i := 2) (oi := { dst := some 35, op := Op.move (Operand.tmp 34), type := 4, pos := "ref.go:66", after := #[{ on := 1, ground := Ground.data }], guard := none }) (v := ?_) rfl (by kernel_rfl) (by kernel_rfl) (by kernel_rfl) (fun _ _ _ h => h) (Or.inl ⟨by rfl, ?_⟩) (by assumption) ?_
                rotate_left
                focus ((intro w hSw; (try dsimp only at hSw); go_simp); (try with_reducible rfl))
                try simp only [Act.put, List.setIfInBounds_toArray, List.set_cons_zero, List.set_cons_succ]
                refine wpAnyH_take (i := 3) (oi := { dst := some 36, op := Op.move (Operand.tmp 0), type := 32, pos := "ref.go:66", after := #[{ on := 2, ground := Ground.guard }], guard := some (2, true) }) (v := ?_) rfl (by kernel_rfl) (by kernel_rfl) (by kernel_rfl) (fun _ _ _ h => h) (Or.inl ⟨by rfl, ?_⟩) (by assumption) ?_
                rotate_left
                focus ((intro w hSw; (try dsimp only at hSw); go_simp); (try with_reducible rfl))
                try simp only [Act.put, List.setIfInBounds_toArray, List.set_cons_zero, List.set_cons_succ]
                refine wpAnyH_take (i := 4) (oi := { dst := some 37, op := Op.move (Operand.tmp 3), type := 3, pos := "ref.go:66", after := #[{ on := 2, ground := Ground.guard }], guard := some (2, true) }) (v := ?_) rfl (by kernel_rfl) (by kernel_rfl) (by kernel_rfl) (fun _ _ _ h => h) (Or.inl ⟨by rfl, ?_⟩) (by assumption) ?_
                rotate_left
                focus ((intro w hSw; (try dsimp only at hSw); go_simp); (try with_reducible rfl))
                try simp only [Act.put, List.setIfInBounds_toArray, List.set_cons_zero, List.set_cons_succ]
                refine wpAnyH_take (i := 5) (oi := { dst := some 38, op := Op.indexAddr 32 (Operand.tmp 36) (Operand.tmp 37), type := 0, pos := "ref.go:66", after := #[{ on := 3, ground := Ground.data }, { on := 4, ground := Ground.data }, { on := 2, ground := Ground.guard }], guard := some (2, true) }) (v := ?_) rfl (by kernel_rfl) (by kernel_rfl) (by kernel_rfl) (fun _ _ _ h => h) (Or.inl ⟨by rfl, ?_⟩) (by assumption) ?_
                rotate_left
                focus ((intro w hSw; (try dsimp only at hSw); go_simp); (try with_reducible rfl))
                try simp only [Act.put, List.setIfInBounds_toArray, List.set_cons_zero, List.set_cons_succ]
                refine wpAnyH_take (i := 6) (oi := { dst := some 39, op := Op.fieldAddr 35 (Operand.tmp 38) 0, type := 0, pos := "ref.go:66", after := #[{ on := 5, ground := Ground.data }, { on := 2, ground := Ground.guard }], guard := some (2, true) }) (v := ?_) rfl (by kernel_rfl) (by kernel_rfl) (by kernel_rfl) (fun _ _ _ h => h) (Or.inl ⟨by rfl, ?_⟩) (by assumption) ?_
                rotate_left
                focus ((intro w hSw; (try dsimp only at hSw); go_simp); (try with_reducible rfl))
                try simp only [Act.put, List.setIfInBounds_toArray, List.set_cons_zero, List.set_cons_succ]
                refine wpAnyH_take (i := 7) (oi := { dst := some 40, op := Op.load 9 (Operand.tmp 39), type := 9, pos := "ref.go:66", after := #[{ on := 6, ground := Ground.data }, { on := 2, ground := Ground.guard }], guard := some (2, true) }) (v := ?_) rfl (by kernel_rfl) (by kernel_rfl) (by kernel_rfl) (fun _ _ _ h => h) (Or.inl ⟨by rfl, ?_⟩) (by assumption) ?_
                rotate_left
                focus ((intro w hSw; (try dsimp only at hSw); go_simp); (try with_reducible rfl))
                try simp only [Act.put, List.setIfInBounds_toArray, List.set_cons_zero, List.set_cons_succ]
                refine wpAnyH_take (i := 8) (oi := { dst := some 41, op := Op.move (Operand.tmp 0), type := 32, pos := "ref.go:66", after := #[{ on := 2, ground := Ground.guard }], guard := some (2, true) }) (v := ?_) rfl (by kernel_rfl) (by kernel_rfl) (by kernel_rfl) (fun _ _ _ h => h) (Or.inl ⟨by rfl, ?_⟩) (by assumption) ?_
                rotate_left
                focus ((intro w hSw; (try dsimp only at hSw); go_simp); (try with_reducible rfl))
                try simp only [Act.put, List.setIfInBounds_toArray, List.set_cons_zero, List.set_cons_succ]
                refine wpAnyH_take (i := 9) (oi := { dst := some 42, op := Op.move (Operand.tmp 3), type := 3, pos := "ref.go:66", after := #[{ on := 2, ground := Ground.guard }], guard := some (2, true) }) (v := ?_) rfl (by kernel_rfl) (by kernel_rfl) (by kernel_rfl) (fun _ _ _ h => h) (Or.inl ⟨by rfl, ?_⟩) (by assumption) ?_
                rotate_left
                focus ((intro w hSw; (try dsimp only at hSw); go_simp); (try with_reducible rfl))
                try simp only [Act.put, List.setIfInBounds_toArray, List.set_cons_zero, List.set_cons_succ]
                refine wpAnyH_take (i := 10) (oi := { dst := some 43, op := Op.binOp BinOp.sub 3 (Operand.tmp 42) (Operand.const (Value.int IntKind.i64 1)) 3, type := 3, pos := "ref.go:66", after := #[{ on := 9, ground := Ground.data }, { on := 2, ground := Ground.guard }], guard := some (2, true) }) (v := ?_) rfl (by kernel_rfl) (by kernel_rfl) (by kernel_rfl) (fun _ _ _ h => h) (Or.inl ⟨by rfl, ?_⟩) (by assumption) ?_
                rotate_left
                focus ((intro w hSw; (try dsimp only at hSw); go_simp); (try with_reducible rfl))
                try simp only [Act.put, List.setIfInBounds_toArray, List.set_cons_zero, List.set_cons_succ]
                refine wpAnyH_take (i := 11) (oi := { dst := some 44, op := Op.indexAddr 32 (Operand.tmp 41) (Operand.tmp 43), type := 0, pos := "ref.go:66", after := #[{ on := 8, ground := Ground.data }, { on := 10, ground := Ground.data }, { on := 2, ground := Ground.guard }], guard := some (2, true) }) (v := ?_) rfl (by kernel_rfl) (by kernel_rfl) (by kernel_rfl) (fun _ _ _ h => h) (Or.inl ⟨by rfl, ?_⟩) (by assumption) ?_
                rotate_left
                focus ((intro w hSw; (try dsimp only at hSw); go_simp); (try with_reducible rfl))
                try simp only [Act.put, List.setIfInBounds_toArray, List.set_cons_zero, List.set_cons_succ]
                refine wpAnyH_take (i := 12) (oi := { dst := some 45, op := Op.fieldAddr 35 (Operand.tmp 44) 0, type := 0, pos := "ref.go:66", after := #[{ on := 11, ground := Ground.data }, { on := 2, ground := Ground.guard }], guard := some (2, true) }) (v := ?_) rfl (by kernel_rfl) (by kernel_rfl) (by kernel_rfl) (fun _ _ _ h => h) (Or.inl ⟨by rfl, ?_⟩) (by assumption) ?_
                rotate_left
                focus ((intro w hSw; (try dsimp only at hSw); go_simp); (try with_reducible rfl))
                try simp only [Act.put, List.setIfInBounds_toArray, List.set_cons_zero, List.set_cons_succ]
                refine wpAnyH_take (i := 13) (oi := { dst := some 46, op := Op.load 9 (Operand.tmp 45), type := 9, pos := "ref.go:66", after := #[{ on := 12, ground := Ground.data }, { on := 2, ground := Ground.guard }], guard := some (2, true) }) (v := ?_) rfl (by kernel_rfl) (by kernel_rfl) (by kernel_rfl) (fun _ _ _ h => h) (Or.inl ⟨by rfl, ?_⟩) (by assumption) ?_
                rotate_left
                focus ((intro w hSw; (try dsimp only at hSw); go_simp); (try with_reducible rfl))
                try simp only [Act.put, List.setIfInBounds_toArray, List.set_cons_zero, List.set_cons_succ]
                refine wpAnyH_take (i := 14) (oi := { dst := some 47, op := Op.binOp BinOp.leq 9 (Operand.tmp 40) (Operand.tmp 46) 9, type := 4, pos := "ref.go:66", after := #[{ on := 7, ground := Ground.data }, { on := 13, ground := Ground.data }, { on := 2, ground := Ground.guard }], guard := some (2, true) }) (v := ?_) rfl (by kernel_rfl) (by kernel_rfl) (by kernel_rfl) (fun _ _ _ h => h) (Or.inl ⟨by rfl, ?_⟩) (by assumption) ?_
                rotate_left
                focus ((intro w hSw; (try dsimp only at hSw); go_simp); (try with_reducible rfl))
                try simp only [Act.put, List.setIfInBounds_toArray, List.set_cons_zero, List.set_cons_succ]
                refine wpAnyH_take (i := 15) (oi := { dst := some 48, op := Op.pick (Operand.tmp 35) (Operand.tmp 47) (Operand.const (Value.bool false)), type := 4, pos := "ref.go:66", after := #[{ on := 2, ground := Ground.data }, { on := 14, ground := Ground.data }], guard := none }) (v := ?_) rfl (by kernel_rfl) (by kernel_rfl) (by kernel_rfl) (fun _ _ _ h => h) (Or.inl ⟨by rfl, ?_⟩) (by assumption) ?_
                rotate_left
                focus ((intro w hSw; (try dsimp only at hSw); go_simp); (try with_reducible rfl))
                try simp only [Act.put, List.setIfInBounds_toArray, List.set_cons_zero, List.set_cons_succ]
                refine wpAnyH_done (by kernel_rfl) ?_ _
                clear hHeld
                go_wp2_with fail
                go_ret
                exact ⟨by rw [HE.out]; rfl, q + 1, rfl⟩
              | true =>
                have HN := Lib.hid (show ∀ i, i < k + 1 → bagAt isCan u v i = 0 from fun i hi => by
                  by_cases e : i = k
                  · subst e
                    unfold bagAt
                    rw [if_neg (by rw [h1]; decide), if_neg (by rw [h2]; decide), if_neg h3, if_neg]
                    rintro ⟨_, h5⟩
                    rw [hj, h4] at h5
                    exact absurd h5 (by decide)
                  · exact HA.out i (by omega))
                have hord : (Op.bytesLess (u k).toList (u j).toList || (u k).toList == (u j).toList) = false := by
                  have g := bl_asym h4
                  unfold bl at g
                  rw [g, beq_toList, decide_eq_false (bl_ne h4).symm]; rfl
                obtain ⟨uk, huk⟩ : ∃ x, u k = x := ⟨_, rfl⟩
                obtain ⟨vk, hvk⟩ : ∃ x, v k = x := ⟨_, rfl⟩
                obtain ⟨uj, huj⟩ : ∃ x, u j = x := ⟨_, rfl⟩
                rw [huk] at z1 HCO
                rw [hvk] at z2 HCK hne
                rw [huj] at y1
                rw [huk, huj] at hord
                clear h0 h1 h2 h3 h4 huk hvk huj hsu hsv HA hj
                go_wp2_with fail
                refine (HCO.out _).mono ?_
                rintro _ _ ⟨rfl, rfl⟩
                go_wp2_with fail
                refine (HCK.out _).mono ?_
                rintro _ _ ⟨rfl, rfl⟩
                go_wp2_with fail
                refine wp_region_held_drew (S := fun w' => w'.cell? ⟨b, o + k * 2, none⟩ = some (.string uk) ∧ w'.cell? ⟨b, o + j * 2, none⟩ = some (.string uj)) (by kernel_rfl) (by (try dsimp only); go_keep) (fun hHeld => ?_)
                refine wpAnyH_take (i := 0) (oi := { dst := some 33, op := Op.move (Operand.tmp 3), type := 3, pos := "ref.go:66", after := #[], guard := none }) (v := ?_) rfl (by kernel_rfl) (by kernel_rfl) (by kernel_rfl) (fun _ _ _ h => h) (Or.inl ⟨by rfl, ?_⟩) (by assumption) ?_
                rotate_left
                focus ((intro w hSw; (try dsimp only at hSw); go_simp); (try with_reducible rfl))
                try simp only [Act.put, List.setIfInBounds_toArray, List.set_cons_zero, List.set_cons_succ]
                refine wpAnyH_take (i := 1) (oi := { dst := some 34, op := Op.binOp BinOp.gtr 3 (Operand.tmp 33) (Operand.const (Value.int IntKind.i64 0)) 3, type := 4, pos := "ref.go:66", after := #[{ on := 0, ground := Ground.data }], guard := none }) (v := .bool true) rfl (by kernel_rfl) (by kernel_rfl) (by kernel_rfl) (fun _ _ _ h => h) (Or.inl ⟨by rfl, ?_⟩) (by assumption) ?_
                focus ((intro w hSw; (try dsimp only at hSw); go_simp); first | rfl | omega)
                try simp only [Act.put, List.setIfInBounds_toArray, List.set_cons_zero, List.set_cons_succ]
                refine wpAnyH_take (i := 2) (oi := { dst := some 35, op := Op.move (Operand.tmp 34), type := 4, pos := "ref.go:66", after := #[{ on := 1, ground := Ground.data }], guard := none }) (v := ?_) rfl (by kernel_rfl) (by kernel_rfl) (by kernel_rfl) (fun _ _ _ h => h) (Or.inl ⟨by rfl, ?_⟩) (by assumption) ?_
                rotate_left
                focus ((intro w hSw; (try dsimp only at hSw); go_simp); (try with_reducible rfl))
                try simp only [Act.put, List.setIfInBounds_toArray, List.set_cons_zero, List.set_cons_succ]
                refine wpAnyH_take (i := 3) (oi := { dst := some 36, op := Op.move (Operand.tmp 0), type := 32, pos := "ref.go:66", after := #[{ on := 2, ground := Ground.guard }], guard := some (2, true) }) (v := ?_) rfl (by kernel_rfl) (by kernel_rfl) (by kernel_rfl) (fun _ _ _ h => h) (Or.inl ⟨by rfl, ?_⟩) (by assumption) ?_
                rotate_left
                focus ((intro w hSw; (try dsimp only at hSw); go_simp); (try with_reducible rfl))
                try simp only [Act.put, List.setIfInBounds_toArray, List.set_cons_zero, List.set_cons_succ]
                refine wpAnyH_take (i := 4) (oi := { dst := some 37, op := Op.move (Operand.tmp 3), type := 3, pos := "ref.go:66", after := #[{ on := 2, ground := Ground.guard }], guard := some (2, true) }) (v := ?_) rfl (by kernel_rfl) (by kernel_rfl) (by kernel_rfl) (fun _ _ _ h => h) (Or.inl ⟨by rfl, ?_⟩) (by assumption) ?_
                rotate_left
                focus ((intro w hSw; (try dsimp only at hSw); go_simp); (try with_reducible rfl))
                try simp only [Act.put, List.setIfInBounds_toArray, List.set_cons_zero, List.set_cons_succ]
                refine wpAnyH_take (i := 5) (oi := { dst := some 38, op := Op.indexAddr 32 (Operand.tmp 36) (Operand.tmp 37), type := 0, pos := "ref.go:66", after := #[{ on := 3, ground := Ground.data }, { on := 4, ground := Ground.data }, { on := 2, ground := Ground.guard }], guard := some (2, true) }) (v := ?_) rfl (by kernel_rfl) (by kernel_rfl) (by kernel_rfl) (fun _ _ _ h => h) (Or.inl ⟨by rfl, ?_⟩) (by assumption) ?_
                rotate_left
                focus ((intro w hSw; (try dsimp only at hSw); go_simp); (try with_reducible rfl))
                try simp only [Act.put, List.setIfInBounds_toArray, List.set_cons_zero, List.set_cons_succ]
                refine wpAnyH_take (i := 6) (oi := { dst := some 39, op := Op.fieldAddr 35 (Operand.tmp 38) 0, type := 0, pos := "ref.go:66", after := #[{ on := 5, ground := Ground.data }, { on := 2, ground := Ground.guard }], guard := some (2, true) }) (v := ?_) rfl (by kernel_rfl) (by kernel_rfl) (by kernel_rfl) (fun _ _ _ h => h) (Or.inl ⟨by rfl, ?_⟩) (by assumption) ?_
                rotate_left
                focus ((intro w hSw; (try dsimp only at hSw); go_simp); (try with_reducible rfl))
                try simp only [Act.put, List.setIfInBounds_toArray, List.set_cons_zero, List.set_cons_succ]
                refine wpAnyH_take (i := 7) (oi := { dst := some 40, op := Op.load 9 (Operand.tmp 39), type := 9, pos := "ref.go:66", after := #[{ on := 6, ground := Ground.data }, { on := 2, ground := Ground.guard }], guard := some (2, true) }) (v := ?_) rfl (by kernel_rfl) (by kernel_rfl) (by kernel_rfl) (fun _ _ _ h => h) (Or.inl ⟨by rfl, ?_⟩) (by assumption) ?_
                rotate_left
                focus ((intro w hSw; (try dsimp only at hSw); go_simp); (try with_reducible rfl))
                try simp only [Act.put, List.setIfInBounds_toArray, List.set_cons_zero, List.set_cons_succ]
                refine wpAnyH_take (i := 8) (oi := { dst := some 41, op := Op.move (Operand.tmp 0), type := 32, pos := "ref.go:66", after := #[{ on := 2, ground := Ground.guard }], guard := some (2, true) }) (v := ?_) rfl (by kernel_rfl) (by kernel_rfl) (by kernel_rfl) (fun _ _ _ h => h) (Or.inl ⟨by rfl, ?_⟩) (by assumption) ?_
                rotate_left
                focus ((intro w hSw; (try dsimp only at hSw); go_simp); (try with_reducible rfl))
                try simp only [Act.put, List.setIfInBounds_toArray, List.set_cons_zero, List.set_cons_succ]
                refine wpAnyH_take (i := 9) (oi := { dst := some 42, op := Op.move (Operand.tmp 3), type := 3, pos := "ref.go:66", after := #[{ on := 2, ground := Ground.guard }], guard := some (2, true) }) (v := ?_) rfl (by kernel_rfl) (by kernel_rfl) (by kernel_rfl) (fun _ _ _ h => h) (Or.inl ⟨by rfl, ?_⟩) (by assumption) ?_
                rotate_left
                focus ((intro w hSw; (try dsimp only at hSw); go_simp); (try with_reducible rfl))
                try simp only [Act.put, List.setIfInBounds_toArray, List.set_cons_zero, List.set_cons_succ]
                refine wpAnyH_take (i := 10) (oi := { dst := some 43, op := Op.binOp BinOp.sub 3 (Operand.tmp 42) (Operand.const (Value.int IntKind.i64 1)) 3, type := 3, pos := "ref.go:66", after := #[{ on := 9, ground := Ground.data }, { on := 2, ground := Ground.guard }], guard := some (2, true) }) (v := ?_) rfl (by kernel_rfl) (by kernel_rfl) (by kernel_rfl) (fun _ _ _ h => h) (Or.inl ⟨by rfl, ?_⟩) (by assumption) ?_
                rotate_left
                focus ((intro w hSw; (try dsimp only at hSw); go_simp); (try with_reducible rfl))
                try simp only [Act.put, List.setIfInBounds_toArray, List.set_cons_zero, List.set_cons_succ]
                refine wpAnyH_take (i := 11) (oi := { dst := some 44, op := Op.indexAddr 32 (Operand.tmp 41) (Operand.tmp 43), type := 0, pos := "ref.go:66", after := #[{ on := 8, ground := Ground.data }, { on := 10, ground := Ground.data }, { on := 2, ground := Ground.guard }], guard := some (2, true) }) (v := ?_) rfl (by kernel_rfl) (by kernel_rfl) (by kernel_rfl) (fun _ _ _ h => h) (Or.inl ⟨by rfl, ?_⟩) (by assumption) ?_
                rotate_left
                focus ((intro w hSw; (try dsimp only at hSw); go_simp); (try with_reducible rfl))
                try simp only [Act.put, List.setIfInBounds_toArray, List.set_cons_zero, List.set_cons_succ]
                refine wpAnyH_take (i := 12) (oi := { dst := some 45, op := Op.fieldAddr 35 (Operand.tmp 44) 0, type := 0, pos := "ref.go:66", after := #[{ on := 11, ground := Ground.data }, { on := 2, ground := Ground.guard }], guard := some (2, true) }) (v := ?_) rfl (by kernel_rfl) (by kernel_rfl) (by kernel_rfl) (fun _ _ _ h => h) (Or.inl ⟨by rfl, ?_⟩) (by assumption) ?_
                rotate_left
                focus ((intro w hSw; (try dsimp only at hSw); go_simp); (try with_reducible rfl))
                try simp only [Act.put, List.setIfInBounds_toArray, List.set_cons_zero, List.set_cons_succ]
                refine wpAnyH_take (i := 13) (oi := { dst := some 46, op := Op.load 9 (Operand.tmp 45), type := 9, pos := "ref.go:66", after := #[{ on := 12, ground := Ground.data }, { on := 2, ground := Ground.guard }], guard := some (2, true) }) (v := ?_) rfl (by kernel_rfl) (by kernel_rfl) (by kernel_rfl) (fun _ _ _ h => h) (Or.inl ⟨by rfl, ?_⟩) (by assumption) ?_
                rotate_left
                focus ((intro w hSw; (try dsimp only at hSw); go_simp); (try with_reducible rfl))
                try simp only [Act.put, List.setIfInBounds_toArray, List.set_cons_zero, List.set_cons_succ]
                refine wpAnyH_take (i := 14) (oi := { dst := some 47, op := Op.binOp BinOp.leq 9 (Operand.tmp 40) (Operand.tmp 46) 9, type := 4, pos := "ref.go:66", after := #[{ on := 7, ground := Ground.data }, { on := 13, ground := Ground.data }, { on := 2, ground := Ground.guard }], guard := some (2, true) }) (v := ?_) rfl (by kernel_rfl) (by kernel_rfl) (by kernel_rfl) (fun _ _ _ h => h) (Or.inl ⟨by rfl, ?_⟩) (by assumption) ?_
                rotate_left
                focus ((intro w hSw; (try dsimp only at hSw); go_simp); (try with_reducible rfl))
                try simp only [Act.put, List.setIfInBounds_toArray, List.set_cons_zero, List.set_cons_succ]
                refine wpAnyH_take (i := 15) (oi := { dst := some 48, op := Op.pick (Operand.tmp 35) (Operand.tmp 47) (Operand.const (Value.bool false)), type := 4, pos := "ref.go:66", after := #[{ on := 2, ground := Ground.data }, { on := 14, ground := Ground.data }], guard := none }) (v := ?_) rfl (by kernel_rfl) (by kernel_rfl) (by kernel_rfl) (fun _ _ _ h => h) (Or.inl ⟨by rfl, ?_⟩) (by assumption) ?_
                rotate_left
                focus ((intro w hSw; (try dsimp only at hSw); go_simp); (try with_reducible rfl))
                try simp only [Act.put, List.setIfInBounds_toArray, List.set_cons_zero, List.set_cons_succ]
                refine wpAnyH_done (by kernel_rfl) ?_ _
                clear hHeld
                go_wp2_with fail
                go_roundw
                case rel => exact ⟨k + 1, by omega, by simp, HN, q + 1, rfl⟩
                case measure => simp [intOf]; omega
    · obtain rfl : k = n := by omega
      have HE := Lib.hid (firstE_zero.2 HA.out)
      go_wp2_with fail
      go_ret
      exact ⟨by rw [HE.out]; rfl, q, rfl⟩

theorem rBag (w : World) (xa : Option Addr) (n cap : Nat) (u v : Nat → ByteArray) (hr : Rf w xa n u v) (hf : FitB n u v) :
    Calls Tryz.prog 25 #[.slice xa n cap] w fun e w' => e = .returned (.int .i64 (bagE isCan n u v)) ∧ ∃ q, w' = w.drewN q := by
  unfold bagE
  by_cases h : 16 < n
  · rw [if_pos h]; exact rBag_many w xa n cap h
  · rw [if_neg h]; exact rBag_few w xa n cap u v hr hf (by omega)

end Go.Proofs.YtahnkmkmoalbhaaGreatDoor

/- The reference of layer 5: With: the walk. -/
namespace Go.Proofs.YtahnkmkmoalbhaaGreatDoor
open Go.RowKit

theorem OB.made {w : World} {base : Nat} (hb : base ≤ w.heap.size) : OB (w.alloc (.cells #[] 35)) base (.slice (some ⟨w.heap.size, 0, none⟩) 0 0) [] :=
  ⟨rfl, Or.inr ⟨w.heap.size, 0, #[], rfl, hb, heap_alloc_new w _, Nat.le_refl _, by unfold maxLen; omega, rfl, rfl⟩⟩
theorem nn_str {s : ByteArray} (h : s ≠ ⟨#[]⟩) : (s.toList == []) = false := by
  rw [show ([] : List UInt8) = (ByteArray.mk #[]).toList by decide +kernel, beq_toList]
  exact decide_eq_false h
theorem cS_nn {z : Int} (h : z ≠ 0) : cS z ≠ ⟨#[]⟩ := fun e => h (by rw [← vS_cS z, e]; exact vS_nil)
theorem geq_of {a b : ByteArray} (h : bl a b = false) : (!(Op.bytesLess a.toList b.toList)) = true := by unfold bl at h; rw [h]; rfl
theorem geq_not {a b : ByteArray} (h : bl a b = true) : (!(Op.bytesLess a.toList b.toList)) = false := by unfold bl at h; rw [h]; rfl
theorem OB.setOther {w : World} {base : Nat} {v : Value} {b : Bag} (h : OB w base v b) {S i : Nat} (hne : ∀ g, v.ownBlock = some g → g ≠ S) (y : Value) : OB (w.setCell ⟨S, i, none⟩ y) base v b := by
  refine World.ownsRow.kept h (row := some S) ⟨rfl, rfl, rfl, by simp [World.setCell], fun k hk he => ?_⟩ ?_
  · rw [Below.heap_setCell _ _ _ k (fun e => he (by rw [e]))]
  · cases hv : v.ownBlock with
    | none => exact .inl rfl
    | some g => exact .inr (by have := hne g hv; simpa using this)
theorem PairAt.grown {w w' : World} {S : Nat} {t : TypeId} {u v : ByteArray} {row : Option Nat} (h : PairAt w S t u v) (hg : w.grownBy w' row) (hne : some S ≠ row) : PairAt w' S t u v := by
  have hl := h.lt
  unfold PairAt at *
  rw [hg.block S hl hne]
  exact h

set_option maxRecDepth 100000 in
set_option maxHeartbeats 16000000 in
theorem rWith (w : World) (xa : Option Addr) (cap : Nat) (b : Bag) (c : ByteArray) (x : Int) (hr : RB w xa b) (hz : NZ b) (hl : b.length ≤ 100) (hs : ∀ p, p ∈ b → p.2.natAbs < 10 ^ 30) (hx : x.natAbs < 10 ^ 30) :
    Calls Tryz.prog 56 #[.slice xa b.length cap, .agg #[.string c, .string (cS x)]] w fun e w' => ∃ ya cy, e = .returned (.slice ya (put b c x).length cy) ∧ RB w' ya (put b c x) ∧ Below w.heap.size w w' := by
  have HR := Lib.hid hr
  have HZ := Lib.hid hz
  have HS := Lib.hid hs
  have hxs := cS_size (k := 30) hx
  obtain ⟨S0, hS0⟩ : ∃ s, w.heap.size = s := ⟨_, rfl⟩
  obtain ⟨W0, hW0⟩ : ∃ W, W = (w.alloc (.cells #[.string c, .string (cS x)] 35)).alloc (.cells #[] 35) := ⟨_, rfl⟩
  have HX0 := Lib.hid (show PairAt W0 S0 35 c (cS x) by rw [hW0, ← hS0]; exact (PairAt.made w 35 c (cS x)).alloc _)
  have HO0 := Lib.hid (show OB W0 (S0 + 1) (.slice (some ⟨S0 + 1, 0, none⟩) 0 0) [] by
    have h1 := OB.made (w := w.alloc (.cells #[.string c, .string (cS x)] 35)) (base := S0 + 1) (by rw [World.size_alloc]; omega)
    rw [World.size_alloc, hS0] at h1
    rw [hW0]; exact h1)
  have HB0 := Lib.hid (show Below w.heap.size w W0 by rw [hW0]; exact ((Below.refl _ w).alloc (Nat.le_refl _) _).alloc (by rw [World.size_alloc]; omega) _)
  have HW0 := Lib.hid (show WithS b c x 0 (decide (x = 0)) [] by
    by_cases e : x = 0
    · rw [decide_eq_true e, e]; exact with_zero b c
    · rw [decide_eq_false e]; exact with_start e)
  have hdone : ((cS x).toList == []) = decide (x = 0) := by
    by_cases e : x = 0
    · rw [decide_eq_true e, e, cS_zero]; decide +kernel
    · rw [decide_eq_false e]; exact nn_str (cS_nn e)
  obtain ⟨d0, hd0⟩ : ∃ d, decide (x = 0) = d := ⟨_, rfl⟩
  obtain ⟨sx, hsx⟩ : ∃ s, cS x = s := ⟨_, rfl⟩
  rw [hd0] at HW0 hdone
  rw [hsx] at hdone hxs HX0 ⊢
  rw [hsx] at hW0
  have HSX := Lib.hid hsx
  clear hr hz hs hd0 hsx
  go_enter Tryz.func56, Tryz.ntmps56
  go_upto_region 2 with fail
  try rw [hS0]
  have hW0' : W0 = (w.alloc (.cells #[.string c, .string sx] 35)).alloc (.cells #[] 35) := hW0
  rw [← hW0']
  clear hW0 hW0'
  obtain ⟨q1, q2, _, _⟩ := HX0.out.cells
  go_wp2_with fail
  clear q1 q2
  go_loopw [5, 6, 7] (fun ov dv iv wr => ∃ (k : Nat) (dn : Bool) (out : Bag) (vv : Value), k ≤ b.length ∧ iv = .int .i64 (k : Int) ∧ dv = .bool dn ∧ vv = ov ∧ out.length ≤ k + 1 ∧ Hid (WithS b c x k dn out) ∧ Hid (OB wr (S0 + 1) vv out) ∧ Hid (PairAt wr S0 35 c sx) ∧ Hid (Below w.heap.size w wr)) (fun _ _ iv _ => b.length - (intOf iv).toNat)
  case atStart => exact ⟨0, d0, [], _, Nat.zero_le _, rfl, by first | rfl | rw [hdone], rfl, by simp, HW0, HO0, HX0, HB0⟩
  case round =>
    clear HW0 HO0 HX0 HB0 hdone
    obtain ⟨k, dn, out, vv, hk, rfl, rfl, rfl, hlen, HW, HO, HX, HB⟩ := hrel
    have hw1 : IntKind.i64.wrap ((k : Int) + 1) = (k : Int) + 1 := IntWalk.i64_in _ (by omega)
    by_cases hlt : k < b.length
    · obtain ⟨zb, zo, rfl, hzb, z1, z2⟩ := Rf.at HR.out hlt
      have hp := at_some hlt
      have hmem := List.mem_of_getElem? hp
      have hnz := HZ.out _ hmem
      have hps := HS.out _ hmem
      dsimp only at hnz hps z2
      have m1 := (HB.out.cell (p := ⟨zb, zo + k * 2, none⟩) hzb).trans z1
      have m2 := (HB.out.cell (p := ⟨zb, zo + k * 2 + 1, none⟩) hzb).trans z2
      obtain ⟨uk, huk⟩ : ∃ u, atU b k = u := ⟨_, rfl⟩
      obtain ⟨pk, hpk⟩ : ∃ p, atX b k = p := ⟨_, rfl⟩
      rw [huk] at hp m1
      rw [hpk] at hp m2 hnz hps
      have hks := cS_size (k := 30) hps
      have hkn := nn_str (cS_nn hnz)
      obtain ⟨sk, hsk⟩ : ∃ s, cS pk = s := ⟨_, rfl⟩
      rw [hsk] at m2 hkn hks
      have HSK := Lib.hid hsk
      have HP := Lib.hid hp
      have hown : ∀ g, vv.ownBlock = some g → g < wr.heap.size := fun g hg => (World.ownsRow.lt HO.out g hg).2
      have hxlt := HX.out.lt
      have hbl := HB.out.size
      obtain ⟨S8, hS8⟩ : ∃ s, wr.heap.size = s := ⟨_, rfl⟩
      obtain ⟨W1, hW1⟩ : ∃ W, W = wr.alloc (.cells #[.string uk, .string sk] 35) := ⟨_, rfl⟩
      have H8 := Lib.hid (show PairAt W1 S8 35 uk sk by rw [hW1, ← hS8]; exact PairAt.made _ _ _ _)
      have HO1 := Lib.hid (show OB W1 (S0 + 1) vv out by rw [hW1]; exact HO.out.alloc _)
      have HX1 := Lib.hid (show PairAt W1 S0 35 c sx by rw [hW1]; exact HX.out.alloc _)
      have HB1 := Lib.hid (show Below w.heap.size w W1 by rw [hW1]; exact HB.out.alloc HB.out.size _)
      have hw18 : S8 < W1.heap.size := H8.out.lt
      rw [hS8] at hown hxlt hbl
      clear huk hpk hsk hp hmem hps z1 z2 HO HX HB
      have HO := HO1
      have HX := HX1
      have HB := HB1
      clear HO1 HX1 HB1
      go_upto_region 7 with fail
      rw [← hW1]
      try rw [hS8]
      clear hW1 hS8 m1 m2
      obtain ⟨p1, p2, p3, p4⟩ := H8.out.cells
      obtain ⟨q1, q2, _, _⟩ := HX.out.cells
      cases dn with
      | true =>
        have HW2 := Lib.hid (with_done HW.out HP.out)
        have HOa := Lib.hid (HO.out.alloc (.cells #[.string uk, .string sk] 35))
        have HXa := Lib.hid (HX.out.alloc (.cells #[.string uk, .string sk] 35))
        have hle : S0 + 1 ≤ (W1.alloc (.cells #[.string uk, .string sk] 35)).heap.size := by have := HXa.out.lt; omega
        have HBa := Lib.hid (HB.out.alloc HB.out.size (.cells #[.string uk, .string sk] 35))
        have HC1 := Lib.hid (show (W1.alloc (.cells #[.string uk, .string sk] 35)).cell? ⟨W1.heap.size, 0, none⟩ = some (.string uk) from cell_of_row _ _ _ _ _ _ (heap_alloc_new W1 _))
        have HC2 := Lib.hid (show (W1.alloc (.cells #[.string uk, .string sk] 35)).cell? ⟨W1.heap.size, 1, none⟩ = some (.string (cS pk)) by rw [HSK.out]; exact cell_of_row _ _ _ _ _ _ (heap_alloc_new W1 _))
        clear HO HX HB
        go_wp2_with (at_builtin; refine wp_addMoney rfl _ _ rfl (S0 + 1) _ out (uk, pk) rfl HOa.out W1.heap.size HC1.out HC2.out rfl (by omega) hle ?_; intro vN WN hO hB hG8; have HO := Lib.hid hO; have HX := Lib.hid (show PairAt WN S0 35 c sx from (hB.block S0 (Nat.lt_succ_self _)).trans HXa.out); have HB := Lib.hid (HBa.out.trans (hB.mono (by omega))); clear hO hB hG8 HOa HXa HBa HC1 HC2)
        go_roundw
        case rel => exact ⟨k + 1, true, _, _, by omega, by simp, rfl, rfl, by simp; omega, HW2, HO, HX, HB⟩
        case measure => simp [intOf]; omega
      | false =>
        cases hcmp : bl uk c with
        | true =>
          have HW2 := Lib.hid (with_less HW.out HP.out hcmp)
          have hge := geq_not hcmp
          clear hcmp
          have HOa := Lib.hid (HO.out.alloc (.cells #[.string uk, .string sk] 35))
          have HXa := Lib.hid (HX.out.alloc (.cells #[.string uk, .string sk] 35))
          have hle : S0 + 1 ≤ (W1.alloc (.cells #[.string uk, .string sk] 35)).heap.size := by have := HXa.out.lt; omega
          have HBa := Lib.hid (HB.out.alloc HB.out.size (.cells #[.string uk, .string sk] 35))
          have HC1 := Lib.hid (show (W1.alloc (.cells #[.string uk, .string sk] 35)).cell? ⟨W1.heap.size, 0, none⟩ = some (.string uk) from cell_of_row _ _ _ _ _ _ (heap_alloc_new W1 _))
          have HC2 := Lib.hid (show (W1.alloc (.cells #[.string uk, .string sk] 35)).cell? ⟨W1.heap.size, 1, none⟩ = some (.string (cS pk)) by rw [HSK.out]; exact cell_of_row _ _ _ _ _ _ (heap_alloc_new W1 _))
          clear HO HX HB
          go_wp2_with (at_builtin; refine wp_addMoney rfl _ _ rfl (S0 + 1) _ out (uk, pk) rfl HOa.out W1.heap.size HC1.out HC2.out rfl (by omega) hle ?_; intro vN WN hO hB hG8; have HO := Lib.hid hO; have HX := Lib.hid (show PairAt WN S0 35 c sx from (hB.block S0 (Nat.lt_succ_self _)).trans HXa.out); have HB := Lib.hid (HBa.out.trans (hB.mono (by omega))); clear hO hB hG8 HOa HXa HBa HC1 HC2)
          go_roundw
          case rel => exact ⟨k + 1, false, _, _, by omega, by simp, rfl, rfl, by simp; omega, HW2, HO, HX, HB⟩
          case measure => simp [intOf]; omega
        | false =>
          have hge := geq_of hcmp
          by_cases he : uk = c
          · subst he
            have HADD := Lib.hid (fun W => rAdd_any sk sx W (by omega) (by omega))
            unfold StrPost at HADD
            rw [← HSK.out, ← HSX.out, vS_cS, vS_cS] at HADD
            rw [HSK.out, HSX.out] at HADD
            by_cases hz2 : pk + x = 0
            · have HW2 := Lib.hid (with_gone HW.out HP.out rfl hz2)
              rw [hz2, cS_zero] at HADD
              clear hz2 hcmp
              go_wp2_with fail
              refine (HADD.out _).mono ?_
              rintro _ w3 ⟨rfl, hB⟩
              obtain ⟨W4, hW4⟩ : ∃ W, W = w3.setCell ⟨S8, 1, none⟩ (.string ⟨#[]⟩) := ⟨_, rfl⟩
              have H8b := Lib.hid (H8.out.below hB)
              have HOb := Lib.hid (show OB W4 (S0 + 1) vv out by rw [hW4]; exact OB.setOther (HO.out.kept hB) (fun g hg => Nat.ne_of_lt (hown g hg)) _)
              have HXb := Lib.hid (show PairAt W4 S0 35 uk sx by rw [hW4]; exact (HX.out.below hB).setOther (a := ⟨S8, 1, none⟩) (Nat.ne_of_lt hxlt) _)
              have HBb := Lib.hid (show Below w.heap.size w W4 by rw [hW4]; exact (HB.out.trans (hB.mono HB.out.size)).setCell (p := ⟨S8, 1, none⟩) hbl _)
              have H8c := Lib.hid (show PairAt W4 S8 35 uk ⟨#[]⟩ by rw [hW4]; exact H8b.out.set1 _)
              clear p1 p2 p3 p4 q1 q2 hB
              obtain ⟨p1, p2, p3, p4⟩ := H8b.out.cells
              go_upto_region 12 with fail
              rw [← hW4]
              clear hW4 p1 p2 p3 p4 H8 H8b
              obtain ⟨p1, p2, _, _⟩ := H8c.out.cells
              go_wp2_with fail
              go_roundw
              case rel => exact ⟨k + 1, true, _, _, by omega, by simp, rfl, rfl, by omega, HW2, HOb, HXb, HBb⟩
              case measure => simp [intOf]; omega
            · have HW2 := Lib.hid (with_same HW.out HP.out rfl hz2)
              have hsn := nn_str (cS_nn hz2)
              obtain ⟨ss, hss⟩ : ∃ s, cS (pk + x) = s := ⟨_, rfl⟩
              rw [hss] at HADD hsn
              have HSS := Lib.hid hss
              clear hz2 hcmp hss
              go_wp2_with fail
              refine (HADD.out _).mono ?_
              rintro _ w3 ⟨rfl, hB⟩
              obtain ⟨W4, hW4⟩ : ∃ W, W = w3.setCell ⟨S8, 1, none⟩ (.string ss) := ⟨_, rfl⟩
              have H8b := Lib.hid (H8.out.below hB)
              have HOb := Lib.hid (show OB W4 (S0 + 1) vv out by rw [hW4]; exact OB.setOther (HO.out.kept hB) (fun g hg => Nat.ne_of_lt (hown g hg)) _)
              have HXb := Lib.hid (show PairAt W4 S0 35 uk sx by rw [hW4]; exact (HX.out.below hB).setOther (a := ⟨S8, 1, none⟩) (Nat.ne_of_lt hxlt) _)
              have HBb := Lib.hid (show Below w.heap.size w W4 by rw [hW4]; exact (HB.out.trans (hB.mono HB.out.size)).setCell (p := ⟨S8, 1, none⟩) hbl _)
              have H8c := Lib.hid (show PairAt W4 S8 35 uk ss by rw [hW4]; exact H8b.out.set1 _)
              clear p1 p2 p3 p4 q1 q2 hB
              obtain ⟨p1, p2, p3, p4⟩ := H8b.out.cells
              go_upto_region 12 with fail
              rw [← hW4]
              clear hW4 p1 p2 p3 p4 H8 H8b HO HX HB
              have HO := HOb
              have HX := HXb
              have HB := HBb
              have H8 := H8c
              clear HOb HXb HBb H8c
              obtain ⟨p1, p2, _, _⟩ := H8.out.cells
              have HOa := Lib.hid (HO.out.alloc (.cells #[.string uk, .string ss] 35))
              have HXa := Lib.hid (HX.out.alloc (.cells #[.string uk, .string ss] 35))
              have hle : S0 + 1 ≤ (W4.alloc (.cells #[.string uk, .string ss] 35)).heap.size := by have := HXa.out.lt; omega
              have HBa := Lib.hid (HB.out.alloc HB.out.size (.cells #[.string uk, .string ss] 35))
              have HC1 := Lib.hid (show (W4.alloc (.cells #[.string uk, .string ss] 35)).cell? ⟨W4.heap.size, 0, none⟩ = some (.string uk) from cell_of_row _ _ _ _ _ _ (heap_alloc_new W4 _))
              have HC2 := Lib.hid (show (W4.alloc (.cells #[.string uk, .string ss] 35)).cell? ⟨W4.heap.size, 1, none⟩ = some (.string (cS (pk + x))) by rw [HSS.out]; exact cell_of_row _ _ _ _ _ _ (heap_alloc_new W4 _))
              clear HO HX HB
              go_wp2_with (at_builtin; refine wp_addMoney rfl _ _ rfl (S0 + 1) _ out (uk, (pk + x)) rfl HOa.out W4.heap.size HC1.out HC2.out rfl (by omega) hle ?_; intro vN WN hO hB hG8; have HO := Lib.hid hO; have HX := Lib.hid (show PairAt WN S0 35 uk sx from (hB.block S0 (Nat.lt_succ_self _)).trans HXa.out); have HB := Lib.hid (HBa.out.trans (hB.mono (by omega))); clear hO hB hG8 HOa HXa HBa HC1 HC2)
              go_roundw
              case rel => exact ⟨k + 1, true, _, _, by omega, by simp, rfl, rfl, by simp; omega, HW2, HO, HX, HB⟩
              case measure => simp [intOf]; omega
          · have HW2 := Lib.hid (with_more HW.out HP.out hcmp he)
            have hlen2 : out.length ≤ k := by have h := HW.out; unfold WithS at h; rw [if_neg (by decide)] at h; rw [h.2.1]; simp; omega
            have heq : (uk.toList == c.toList) = false := by rw [beq_toList]; exact decide_eq_false he
            clear he hcmp
            have HOa := Lib.hid (HO.out.alloc (.cells #[.string c, .string sx] 35))
            have HXa := Lib.hid (HX.out.alloc (.cells #[.string c, .string sx] 35))
            have H8a := Lib.hid (H8.out.alloc (.cells #[.string c, .string sx] 35))
            have hle : S0 + 1 ≤ (W1.alloc (.cells #[.string c, .string sx] 35)).heap.size := by have := HXa.out.lt; omega
            have HBa := Lib.hid (HB.out.alloc HB.out.size (.cells #[.string c, .string sx] 35))
            have HC1 := Lib.hid (show (W1.alloc (.cells #[.string c, .string sx] 35)).cell? ⟨W1.heap.size, 0, none⟩ = some (.string c) from cell_of_row _ _ _ _ _ _ (heap_alloc_new W1 _))
            have HC2 := Lib.hid (show (W1.alloc (.cells #[.string c, .string sx] 35)).cell? ⟨W1.heap.size, 1, none⟩ = some (.string (cS x)) by rw [HSX.out]; exact cell_of_row _ _ _ _ _ _ (heap_alloc_new W1 _))
            clear HO HX HB H8
            go_upto_region 12 with (at_builtin; refine wp_addMoney rfl _ _ rfl (S0 + 1) _ out (c, x) rfl HOa.out W1.heap.size HC1.out HC2.out rfl (by omega) hle ?_; intro vN WN hO hB hG8; have HO := Lib.hid hO; have HX := Lib.hid (show PairAt WN S0 35 c sx from (hB.block S0 (Nat.lt_succ_self _)).trans HXa.out); have HB := Lib.hid (HBa.out.trans (hB.mono (by omega))); have H8 := Lib.hid (PairAt.grown H8a.out hG8 (fun e => Nat.lt_irrefl _ (hown _ e.symm))); clear hO hB hG8 HOa HXa HBa HC1 HC2 H8a)
            clear p1 p2 p3 p4 q1 q2
            obtain ⟨p1, p2, _, _⟩ := H8.out.cells
            have HOa := Lib.hid (HO.out.alloc (.cells #[.string uk, .string sk] 35))
            have HXa := Lib.hid (HX.out.alloc (.cells #[.string uk, .string sk] 35))
            have hle : S0 + 1 ≤ (WN.alloc (.cells #[.string uk, .string sk] 35)).heap.size := by have := HXa.out.lt; omega
            have HBa := Lib.hid (HB.out.alloc HB.out.size (.cells #[.string uk, .string sk] 35))
            have HC1 := Lib.hid (show (WN.alloc (.cells #[.string uk, .string sk] 35)).cell? ⟨WN.heap.size, 0, none⟩ = some (.string uk) from cell_of_row _ _ _ _ _ _ (heap_alloc_new WN _))
            have HC2 := Lib.hid (show (WN.alloc (.cells #[.string uk, .string sk] 35)).cell? ⟨WN.heap.size, 1, none⟩ = some (.string (cS pk)) by rw [HSK.out]; exact cell_of_row _ _ _ _ _ _ (heap_alloc_new WN _))
            clear HO HX HB
            go_wp2_with (at_builtin; refine wp_addMoney rfl _ _ rfl (S0 + 1) _ (out ++ [(c, x)]) (uk, pk) rfl HOa.out WN.heap.size HC1.out HC2.out rfl (by simp; omega) hle ?_; intro vM WM hO hB hG8; have HO := Lib.hid hO; have HX := Lib.hid (show PairAt WM S0 35 c sx from (hB.block S0 (Nat.lt_succ_self _)).trans HXa.out); have HB := Lib.hid (HBa.out.trans (hB.mono (by omega))); clear hO hB hG8 HOa HXa HBa HC1 HC2)
            go_roundw
            case rel => exact ⟨k + 1, true, _, _, by omega, by simp, rfl, rfl, by simp; omega, HW2, HO, HX, HB⟩
            case measure => simp [intOf]; omega
    · obtain rfl : k = b.length := by omega
      obtain ⟨q1, q2, _, _⟩ := HX.out.cells
      cases dn with
      | true =>
        have HE := Lib.hid (with_end HW.out)
        obtain ⟨ya, cy, rfl, hrb, _, _⟩ := OB.rb HO.out
        rw [HE.out] at hrb
        clear HW HO HX
        go_wp2_with fail
        go_ret
        exact ⟨ya, cy, by first | rfl | (rw [HE.out]; rfl) | (rw [← HE.out]; rfl), hrb, HB.out⟩
      | false =>
        have HE := Lib.hid (with_last HW.out)
        have HOa := Lib.hid (HO.out.alloc (.cells #[.string c, .string sx] 35))
        have HXa := Lib.hid (HX.out.alloc (.cells #[.string c, .string sx] 35))
        have hle : S0 + 1 ≤ (wr.alloc (.cells #[.string c, .string sx] 35)).heap.size := by have := HXa.out.lt; omega
        have HBa := Lib.hid (HB.out.alloc HB.out.size (.cells #[.string c, .string sx] 35))
        have HC1 := Lib.hid (show (wr.alloc (.cells #[.string c, .string sx] 35)).cell? ⟨wr.heap.size, 0, none⟩ = some (.string c) from cell_of_row _ _ _ _ _ _ (heap_alloc_new wr _))
        have HC2 := Lib.hid (show (wr.alloc (.cells #[.string c, .string sx] 35)).cell? ⟨wr.heap.size, 1, none⟩ = some (.string (cS x)) by rw [HSX.out]; exact cell_of_row _ _ _ _ _ _ (heap_alloc_new wr _))
        clear HO HX HB
        go_wp2_with (at_builtin; refine wp_addMoney rfl _ _ rfl (S0 + 1) _ out (c, x) rfl HOa.out wr.heap.size HC1.out HC2.out rfl (by omega) hle ?_; intro vN WN hO hB hG8; have HO := Lib.hid hO; have HX := Lib.hid (show PairAt WN S0 35 c sx from (hB.block S0 (Nat.lt_succ_self _)).trans HXa.out); have HB := Lib.hid (HBa.out.trans (hB.mono (by omega))); clear hO hB hG8 HOa HXa HBa HC1 HC2)
        obtain ⟨ya, cy, rfl, hrb, _, _⟩ := OB.rb HO.out
        rw [HE.out] at hrb
        clear HW HO HX
        go_wp2_with fail
        go_ret
        exact ⟨ya, cy, by first | rfl | (rw [HE.out]; rfl) | (rw [← HE.out]; rfl), hrb, HB.out⟩

end Go.Proofs.YtahnkmkmoalbhaaGreatDoor

/- The reference of layer 5: Amount, Sum, Put: the walks. -/
namespace Go.Proofs.YtahnkmkmoalbhaaGreatDoor
open Go.RowKit

/-- the amount of the first element with this code -/
def amtS (n : Nat) (u v : Nat → ByteArray) (c : ByteArray) : ByteArray := match idx (fun i => decide (u i = c)) n with
  | some i => v i
  | none => ⟨#[]⟩
theorem amtS_at {n k : Nat} {u v : Nat → ByteArray} {c : ByteArray} (hk : k < n) (he : u k = c) (h : ∀ i, i < k → u i ≠ c) : amtS n u v c = v k := by
  unfold amtS
  rw [idx_some (k := k) (decide_eq_true he) (fun i hi => decide_eq_false (h i hi)) hk]
theorem amtS_none {n : Nat} {u v : Nat → ByteArray} {c : ByteArray} (h : ∀ i, i < n → u i ≠ c) : amtS n u v c = ⟨#[]⟩ := by
  unfold amtS
  rw [idx_none.2 fun i hi => decide_eq_false (h i hi)]
set_option maxRecDepth 100000 in
set_option maxHeartbeats 8000000 in
theorem rAmount (w : World) (xa : Option Addr) (n cap : Nat) (u v : Nat → ByteArray) (c : ByteArray) (hr : Rf w xa n u v) (hmax : n ≤ 9223372036854775807) :
    Calls Tryz.prog 27 #[.slice xa n cap, .string c] w fun e w' => e = .returned (.string (amtS n u v c)) ∧ w = w' := by
  have HR := Lib.hid hr
  clear hr
  go_enter Tryz.func27, Tryz.ntmps27
  go_wp2_with fail
  go_loopw [5] (fun iv wr => ∃ k : Nat, k ≤ n ∧ iv = .int .i64 (k : Int) ∧ Hid (∀ i, i < k → u i ≠ c) ∧ wr = w) (fun iv _ => n - (intOf iv).toNat)
  case atStart => exact ⟨0, Nat.zero_le _, rfl, Lib.hid (fun i hi => absurd hi (by omega)), rfl⟩
  case round =>
    obtain ⟨k, hk, rfl, HA, rfl⟩ := hrel
    by_cases hlt : k < n
    · have hw1 : IntKind.i64.wrap ((k : Int) + 1) = (k : Int) + 1 := IntWalk.i64_in _ (by omega)
      obtain ⟨b, o, rfl, hb, z1, z2⟩ := Rf.at HR.out hlt
      by_cases he : u k = c
      · have HE := Lib.hid (amtS_at (v := v) hlt he HA.out)
        obtain ⟨vk, hvk⟩ : ∃ x, v k = x := ⟨_, rfl⟩
        rw [he] at z1
        rw [hvk] at z2 HE
        clear he hvk HA
        go_wp2_with fail
        go_ret
        exact ⟨by rw [HE.out]; rfl, rfl⟩
      · have hne : ((u k).toList == c.toList) = false := by rw [beq_toList]; exact decide_eq_false he
        have HA2 := Lib.hid (show ∀ i, i < k + 1 → u i ≠ c from fun i hi => by
          by_cases e : i = k
          · rw [e]; exact he
          · exact HA.out i (by omega))
        obtain ⟨uk, huk⟩ : ∃ x, u k = x := ⟨_, rfl⟩
        rw [huk] at z1 hne
        clear he huk HA
        go_wp2_with fail
        go_roundw
        case rel => exact ⟨k + 1, by omega, by simp, HA2, by first | rfl | trivial⟩
        case measure => simp [intOf]; omega
    · obtain rfl : k = n := by omega
      have HE := Lib.hid (amtS_none (v := v) HA.out)
      go_wp2_with fail
      go_ret
      exact ⟨by rw [HE.out]; rfl, rfl⟩

/-- no bag and an error -/
def nilM (c : Int) : Value := .tuple #[.slice none 0 0, .int .i64 c]
theorem addB_cap {M : Nat} {A B : Bag} (ha : ∀ p, p ∈ A → p.2.natAbs ≤ M) (hb : ∀ p, p ∈ B → p.2.natAbs ≤ M) : ∀ k, k ≤ B.length → ∀ p, p ∈ addB A (B.take k) → p.2.natAbs ≤ (k + 1) * M
  | 0, _ => fun p hp => by
    have := ha p (by simpa [addB] using hp)
    omega
  | k + 1, hk => by
    have ih := addB_cap ha hb k (by omega)
    have hp := at_some (b := B) (i := k) (by omega)
    have h1 := hb _ (List.mem_of_getElem? hp)
    rw [addB_next A B hp]
    dsimp only at h1 ⊢
    have e1 : (k + 1 + 1) * M = (k + 1) * M + M := Nat.succ_mul (k + 1) M
    refine put_all (P := fun z => z.natAbs ≤ (k + 1 + 1) * M) (fun p hp => ?_) ?_ (fun p hp => ?_)
    · have := ih p hp
      show p.2.natAbs ≤ _
      omega
    · show (atX B k).natAbs ≤ _
      have : 0 ≤ (k + 1) * M := Nat.zero_le _
      omega
    · have := ih p hp
      show (p.2 + atX B k).natAbs ≤ _
      omega

set_option maxRecDepth 100000 in
set_option maxHeartbeats 8000000 in
theorem rSum_bad (w : World) (xa ya : Option Addr) (n m capa capb : Nat) (u v s t : Nat → ByteArray) (ha : Rf w xa n u v) (hb : Rf w ya m s t) (fa : FitB n u v) (fb : FitB m s t) (h : ¬ (bagE isCan n u v = 0 ∧ bagE isCan m s t = 0)) :
    Calls Tryz.prog 30 #[.slice xa n capa, .slice ya m capb] w fun e w' => e = .returned (nilM 1) ∧ Below w.heap.size w w' := by
  have HCA := Lib.hid (rBag w xa n capa u v ha fa)
  have HCB := Lib.hid (fun q => rBag (w.drewN q) ya m capb s t (hb.drewN q) fb)
  obtain ⟨c, hc⟩ : ∃ c, bagE isCan n u v = c := ⟨_, rfl⟩
  obtain ⟨d, hd⟩ : ∃ d, bagE isCan m s t = d := ⟨_, rfl⟩
  rw [hc] at HCA h
  rw [hd] at HCB h
  clear hc hd ha hb fa fb
  unfold nilM
  by_cases h1 : c = 0
  · have h2 : (d != 0) = true := by rw [bne_iff_ne]; exact fun e => h ⟨h1, e⟩
    subst h1
    clear h
    go_enter Tryz.func30, Tryz.ntmps30
    go_wp2_with fail
    refine HCA.out.mono ?_
    rintro _ _ ⟨rfl, q, rfl⟩
    go_wp2_with fail
    refine (HCB.out q).mono ?_
    rintro _ _ ⟨rfl, r, rfl⟩
    go_wp2_with fail
    go_ret2
    exact ⟨rfl, below_drewN (Below.refl _ _) (q + r)⟩
  · have h2 : (c != 0) = true := by rw [bne_iff_ne]; exact h1
    clear h h1
    go_enter Tryz.func30, Tryz.ntmps30
    go_wp2_with fail
    refine HCA.out.mono ?_
    rintro _ _ ⟨rfl, q, rfl⟩
    go_wp2_with fail
    go_ret2
    exact ⟨rfl, below_drewN (Below.refl _ _) q⟩

set_option maxRecDepth 100000 in
set_option maxHeartbeats 16000000 in
theorem rSum_walk (w : World) (xa ya : Option Addr) (n m capa capb : Nat) (u v s t : Nat → ByteArray) (ha : Rf w xa n u v) (hb : Rf w ya m s t) (fa : FitB n u v) (fb : FitB m s t) (ga : bagE isCan n u v = 0) (gb : bagE isCan m s t = 0)
    (A B : Bag) (hA : rowB n u v = A) (hB : rowB m s t = B) (sa : ∀ p, p ∈ A → p.2.natAbs ≤ 10 ^ 20) (sb : ∀ p, p ∈ B → p.2.natAbs ≤ 10 ^ 20) (Ψ : Option Addr → Nat → Nat → Int → World → Prop)
    (h1 : (addB A B).length ≤ 16 → ∀ za cz w', RB w' za (addB A B) → Ψ za (addB A B).length cz 0 w') (h2 : 16 < (addB A B).length → ∀ w', Ψ none 0 0 4 w') :
    Calls Tryz.prog 30 #[.slice xa n capa, .slice ya m capb] w fun e w' => ∃ za l cz c, e = .returned (.tuple #[.slice za l cz, .int .i64 c]) ∧ Ψ za l cz c w' ∧ Below w.heap.size w w' := by
  have HCA := Lib.hid (rBag w xa n capa u v ha fa)
  have HCB := Lib.hid (fun q => rBag (w.drewN q) ya m capb s t (hb.drewN q) fb)
  rw [ga] at HCA
  rw [gb] at HCB
  have goa := bagE_zero ga
  have gob := bagE_zero gb
  have cs : ∀ {z : ByteArray}, isCan z = true → z = cS (vS z) := fun {z} h => by
    unfold isCan at h
    have := of_decide_eq_true h
    first | exact this.symm | exact this
  have hra := RB.of ha fun i hi => cs (goa.can i hi)
  have hrb := RB.of hb fun i hi => cs (gob.can i hi)
  have hnz : ∀ {n : Nat} {u v : Nat → ByteArray}, GoodB isCan n u v → NZ (rowB n u v) := fun {n u v} g => bagL_nz.2 fun i hi e => g.nz i hi (by rw [cs (g.can i hi), e, cS_zero])
  have hza := hnz goa
  rw [hA] at hra hza
  rw [hB] at hrb
  have hla : A.length = n := by rw [← hA]; exact bagL_len _ _ _
  have hlb : B.length = m := by rw [← hB]; exact bagL_len _ _ _
  have hn16 := goa.few
  have hm16 := gob.few
  have HRB := Lib.hid hrb
  have HRA := Lib.hid hra
  have HNZ := Lib.hid (fun k => addB_nz (b := B.take k) hza)
  have HCP := Lib.hid (addB_cap sa sb)
  have HSB := Lib.hid sb
  have HP1 := Lib.hid h1
  have HP2 := Lib.hid h2
  have hmi : (m : Int) ≤ 16 := by omega
  subst hlb
  subst hla
  clear ha hb fa fb ga gb goa gob cs hra hrb hnz hza hA hB sa sb h1 h2
  go_enter Tryz.func30, Tryz.ntmps30
  go_wp2_with fail
  refine HCA.out.mono ?_
  rintro _ _ ⟨rfl, q, rfl⟩
  go_wp2_with fail
  refine (HCB.out q).mono ?_
  rintro _ _ ⟨rfl, r, rfl⟩
  have HB0 := Lib.hid (show Below w.heap.size w (w.drewN (q + r)) from below_drewN (Below.refl _ _) (q + r))
  have HA0 := Lib.hid (show RB (w.drewN (q + r)) xa (addB A (B.take 0)) from HRA.out.drewN (q + r))
  clear HCA HCB HRA
  go_wp2_with fail
  go_loopw [6, 7] (fun ov iv wr => ∃ (k : Nat) (za : Option Addr) (cz : Nat), k ≤ B.length ∧ iv = .int .i64 (k : Int) ∧ ov = .slice za (addB A (B.take k)).length cz ∧ Hid (RB wr za (addB A (B.take k))) ∧ Hid (Below w.heap.size w wr)) (fun _ iv _ => B.length - (intOf iv).toNat)
  case atStart => exact ⟨0, xa, capa, Nat.zero_le _, rfl, rfl, HA0, HB0⟩
  case round =>
    clear HA0 HB0
    obtain ⟨k, za, cz, hk, rfl, rfl, HA, HB⟩ := hrel
    have hw1 : IntKind.i64.wrap ((k : Int) + 1) = (k : Int) + 1 := IntWalk.i64_in _ (by omega)
    by_cases hlt : k < B.length
    · obtain ⟨zb, zo, rfl, hzb, z1, z2⟩ := Rf.at HRB.out hlt
      have m1 := (HB.out.cell (p := ⟨zb, zo + k * 2, none⟩) hzb).trans z1
      have m2 := (HB.out.cell (p := ⟨zb, zo + k * 2 + 1, none⟩) hzb).trans z2
      have hp := at_some hlt
      have hx := HSB.out _ (List.mem_of_getElem? hp)
      have hln := addB_len A (B.take k)
      have htl : (B.take k).length ≤ k := by simp; omega
      have HWI := Lib.hid (rWith wr za cz (addB A (B.take k)) (atU B k) (atX B k) HA.out (HNZ.out k) (by omega) (fun p hp => by
        have h3 := HCP.out k (by omega) p hp
        have h4 : (k + 1) * 10 ^ 20 ≤ 17 * 10 ^ 20 := Nat.mul_le_mul_right _ (by omega)
        omega) (by dsimp only at hx; omega))
      rw [← addB_next A B hp] at HWI
      obtain ⟨uk, huk⟩ : ∃ x, atU B k = x := ⟨_, rfl⟩
      obtain ⟨sk, hsk⟩ : ∃ x, cS (atX B k) = x := ⟨_, rfl⟩
      rw [huk] at m1
      rw [hsk] at m2
      rw [huk, hsk] at HWI
      clear hp hx hln htl huk hsk z1 z2
      obtain ⟨l, hl⟩ : ∃ l, (addB A (B.take k)).length = l := ⟨_, rfl⟩
      rw [hl] at HWI ⊢
      clear hl
      go_wp2_with fail
      refine HWI.out.mono ?_
      rintro _ w3 ⟨yb, cy, rfl, hrb, hB⟩
      have HA2 := Lib.hid hrb
      have HB2 := Lib.hid (HB.out.trans (hB.mono HB.out.size))
      clear hrb hB HA HB HWI m1 m2
      go_wp2_with fail
      go_roundw
      case rel => exact ⟨k + 1, yb, cy, by omega, by simp, rfl, HA2, HB2⟩
      case measure => simp [intOf]; omega
    · obtain rfl : k = B.length := by omega
      rw [List.take_length] at HA ⊢
      by_cases h16 : 16 < (addB A B).length
      · have HΨ := Lib.hid (HP2.out h16)
        have hi : (16 : Int) < ((addB A B).length : Int) := by omega
        clear HA h16
        go_wp2_with fail
        go_ret2
        first
          | exact ⟨_, _, _, _, rfl, HΨ.out _, HB.out⟩
          | exact ⟨none, 0, 0, 4, rfl, HΨ.out _, HB.out⟩
      · have HΨ := Lib.hid (HP1.out (by omega) za cz _ HA.out)
        have hi : ¬ (16 : Int) < ((addB A B).length : Int) := by omega
        clear HA h16
        go_wp2_with fail
        go_ret2
        first
          | exact ⟨_, _, _, _, rfl, HΨ.out, HB.out⟩
          | exact ⟨za, (addB A B).length, cz, 0, rfl, HΨ.out, HB.out⟩

end Go.Proofs.YtahnkmkmoalbhaaGreatDoor
