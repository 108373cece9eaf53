/- The laws' own functions of layer 3: ratio, Long, LongFrac, greatText: the walks. -/
import Derived.Test.YthhihdihkddakaaGreatDoorDD
namespace Go.Proofs.YthhihdihkddakaaGreatDoor
open Go.RowKit Fra

/-- is an integer longer than the statements examine? -/
def longS (s : ByteArray) : Bool := decide (60 < s.size)
theorem longS_true {s : ByteArray} (h : 60 < s.size) : longS s = true := decide_eq_true h
theorem longS_false {s : ByteArray} (h : ¬ 60 < s.size) : longS s = false := decide_eq_false h
def longF (n d : ByteArray) : Bool := longS n || longS d
/-- is a text longer than the statements examine? -/
def greatT (s : ByteArray) : Bool := (decide (60 < s.size) && decide (s.size ≤ 65536)) || decide (65636 < s.size)
/-! ### The chapter's examples -/
theorem val_lit {n d : ByteArray} {x : Int × Int} (h : raw n d = x) (h1 : n.size ≤ 99998) (h2 : d.size ≤ 99998) : Val n d x := ⟨h, h1, h2⟩
theorem aw_round1 : Ret 71 #[.agg #[.string ⟨#[45, 53]⟩, .string ⟨#[50]⟩], .int .i64 1] (two ⟨#[45, 50]⟩ 0) := by
  have h := round_ok (n := ⟨#[45, 53]⟩) (d := ⟨#[50]⟩) (x := (-5, 2)) (m := 1) (z := -2) (val_lit (by decide +kernel) (by decide) (by decide)) (by decide) (by decide) (by decide +kernel)
  rwa [show cS (-2) = ⟨#[45, 50]⟩ by decide +kernel] at h
theorem aw_round2 : Ret 71 #[.agg #[.string ⟨#[45, 53]⟩, .string ⟨#[50]⟩], .int .i64 2] (two ⟨#[45, 51]⟩ 0) := by
  have h := round_ok (n := ⟨#[45, 53]⟩) (d := ⟨#[50]⟩) (x := (-5, 2)) (m := 2) (z := -3) (val_lit (by decide +kernel) (by decide) (by decide)) (by decide) (by decide) (by decide +kernel)
  rwa [show cS (-3) = ⟨#[45, 51]⟩ by decide +kernel] at h
theorem aw_round3 : Ret 71 #[.agg #[.string ⟨#[45, 53]⟩, .string ⟨#[50]⟩], .int .i64 3] (two ⟨#[45, 50]⟩ 0) := by
  have h := round_ok (n := ⟨#[45, 53]⟩) (d := ⟨#[50]⟩) (x := (-5, 2)) (m := 3) (z := -2) (val_lit (by decide +kernel) (by decide) (by decide)) (by decide) (by decide) (by decide +kernel)
  rwa [show cS (-2) = ⟨#[45, 50]⟩ by decide +kernel] at h
theorem aw_round4 : Ret 71 #[.agg #[.string ⟨#[45, 53]⟩, .string ⟨#[50]⟩], .int .i64 4] (two ⟨#[45, 51]⟩ 0) := by
  have h := round_ok (n := ⟨#[45, 53]⟩) (d := ⟨#[50]⟩) (x := (-5, 2)) (m := 4) (z := -3) (val_lit (by decide +kernel) (by decide) (by decide)) (by decide) (by decide) (by decide +kernel)
  rwa [show cS (-3) = ⟨#[45, 51]⟩ by decide +kernel] at h
theorem aw_round5 : Ret 71 #[.agg #[.string ⟨#[45, 53]⟩, .string ⟨#[50]⟩], .int .i64 5] (two ⟨#[45, 51]⟩ 0) := by
  have h := round_ok (n := ⟨#[45, 53]⟩) (d := ⟨#[50]⟩) (x := (-5, 2)) (m := 5) (z := -3) (val_lit (by decide +kernel) (by decide) (by decide)) (by decide) (by decide) (by decide +kernel)
  rwa [show cS (-3) = ⟨#[45, 51]⟩ by decide +kernel] at h
theorem aw_round6 : Ret 71 #[.agg #[.string ⟨#[45, 53]⟩, .string ⟨#[50]⟩], .int .i64 6] (two ⟨#[45, 50]⟩ 0) := by
  have h := round_ok (n := ⟨#[45, 53]⟩) (d := ⟨#[50]⟩) (x := (-5, 2)) (m := 6) (z := -2) (val_lit (by decide +kernel) (by decide) (by decide)) (by decide) (by decide) (by decide +kernel)
  rwa [show cS (-2) = ⟨#[45, 50]⟩ by decide +kernel] at h
end Go.Proofs.YthhihdihkddakaaGreatDoor

/- What the laws of layer 3 hold the program's answers against, by values. -/
namespace Go.Proofs.YthhihdihkddakaaGreatDoor
open Go.RowKit Fra

theorem txt_list (z : Int) (p : Nat) : (txt z p).data.toList = Num.decT z p := rfl
theorem isDec_txt (z : Int) (p : Nat) : isDecS (txt z p) = true := by unfold isDecS; rw [txt_list]; exact Num.isDec_of_text z p
theorem units_txt (z : Int) (p : Nat) : unitsD (txt z p) = z := by unfold unitsD; rw [txt_list]; exact Num.decU_text z p
theorem places_txt (z : Int) (p : Nat) : placesD (txt z p) = p := by unfold placesD; rw [txt_list]; exact Num.decP_text z p
theorem txt_size {z : Int} {k : Nat} (p : Nat) (h : Cap k z) : (txt z p).size ≤ k + p + 3 := by
  rw [← size_toList, txt_list, Num.decT_list]
  have h1 : (Lib.decDigits (z.natAbs / 10 ^ p)).length ≤ k + 1 := by
    have := digits_len (z := ((z.natAbs / 10 ^ p : Nat) : Int)) (k := k) (by unfold Cap at *; rw [Int.natAbs_natCast]; exact Nat.lt_of_le_of_lt (Nat.div_le_self z.natAbs (10 ^ p)) h)
    rwa [Int.natAbs_natCast] at this
  have h2 := Num.fixd_length p z.natAbs
  rw [List.length_append, List.length_append]
  have h3 : ((if z < 0 then [45] else []) : List UInt8).length ≤ 1 := by split <;> simp
  have h4 : ((if p = 0 then [] else 46 :: Num.fixd p z.natAbs) : List UInt8).length ≤ p + 1 := by
    split
    · simp
    · rw [List.length_cons, h2]; omega
  omega
theorem dot_iff : ∀ l : List UInt8, Num.dot l < l.length ↔ 46 ∈ l
  | [] => by simp [Num.dot]
  | b :: l => by
    have ih := dot_iff l
    by_cases h : b = 46
    · subst h; simp [Num.dot]
    · have e : Num.dot (b :: l) = Num.dot l + 1 := by simp [Num.dot, h]
      have h2 : (46 : UInt8) ≠ b := fun k => h k.symm
      rw [e, List.length_cons, List.mem_cons, ← ih]
      constructor
      · intro k; exact Or.inr (by omega)
      · rintro (k | k)
        · exact absurd k h2
        · omega
theorem dot_txt (z : Int) (p : Nat) : decide (Num.dot (txt z p).data.toList < (txt z p).data.toList.length) = decide (0 < p) := by
  rw [decide_eq_decide, dot_iff, txt_list]
  constructor
  · intro h
    rcases Nat.eq_zero_or_pos p with e | e
    · subst e; exact absurd h (Num.no_dot z)
    · exact e
  · intro h; exact Num.has_dot z p h
theorem canon_ret {s : ByteArray} {z : Int} (hs : s.size ≤ 4294967295) (hz : vS s = z) : Ret 139 #[.string s] (.string (cS z)) := Ret.of_same fun W => canonical_v W hs hz rfl
theorem vS_ten : vS ⟨#[49, 48]⟩ = 10 := by decide +kernel
theorem int_val {z : Int} {k : Nat} (h : Cap k z) (hk : k ≤ 99000) : Val (cS z) ⟨#[]⟩ (z, 1) :=
  ⟨by unfold raw; rw [vS_cS, vS_nil]; rfl, by have := cS_size h; omega, by decide⟩
theorem int_capP {z : Int} {k : Nat} (h : Cap k z) (hk : 1 ≤ k) : CapP k (z, 1) := ⟨h, Cap.one hk⟩
theorem cap_tens {p k : Nat} (h : p + 1 ≤ k) : Cap k ((10 : Int) ^ p) := (tens_cap p).mono h
/-- the value of a text, times the power of 10 -/
theorem text_value {z : Int} {p : Nat} : mulP (low (z, (10 : Int) ^ p)) ((10 : Int) ^ p, 1) = (z, 1) := units_is.mpr rfl
theorem cmp_same (x : Int × Int) : cmpP x x = 0 := (cmp3_zero _ _).mpr rfl
theorem frac_val {z : Int} {p k : Nat} (h : Cap k z) (hk : p + 1 ≤ k) : CapP k (low (z, (10 : Int) ^ p)) ∧ 0 < (low (z, (10 : Int) ^ p)).2 :=
  ⟨CapP.low ⟨h, cap_tens hk⟩ (Num.pow10 p), low_pos (x := (z, (10 : Int) ^ p)) (Num.pow10 p)⟩

end Go.Proofs.YthhihdihkddakaaGreatDoor
