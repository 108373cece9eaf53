/- Layer 6: texts and days: there and back, and in order. -/
import Derived.Test.YtgpjadlnfofppaaDoorYrd
import Derived.Test.YtgpjadlnfofppaaDoorYlc
namespace Go.Proofs.YtgpjadlnfofppaaDoor
open Go.RowKit Dat

theorem byte_eq {c d : UInt8} (h : c.toNat = d.toNat) : c = d := UInt8.toNat_inj.1 h
theorem bytes_same {a b : ByteArray} (h : a.data.toList = b.data.toList) : a = b := by
  apply ByteArray.ext
  exact Array.toList_inj.1 h
/-- whatever can be parsed is the text of the result -/
theorem parse_print {s : ByteArray} {d : Int} (h : parseR s = (d, 0)) : printR d = (s, 0) := by
  by_cases hf : formP s
  · rw [parseR_ok hf] at h
    obtain ⟨h1, h2, h3, h4, _⟩ := date_at h
    obtain ⟨g0, g4, g7, f1, f2, f3⟩ := hf
    obtain ⟨c0, c1, c2, c3, c4, c5, c6, c7, c8, c9, hl⟩ := ten_bytes g0
    rw [ext_list, hl] at h2 h3 h4 f1 f2 f3
    rw [hl] at g4 g7
    simp [allD, isD_iff] at g4 g7 f1 f2 f3
    simp [numI] at h2 h3 h4
    unfold printR
    rw [if_pos h1]
    have hs : (⟨(txt (yr (ix d)) (mn (ix d)) (dy (ix d))).toArray⟩ : ByteArray) = s := by
      apply bytes_same
      rw [data_toList, hl]
      unfold txt
      have e0 : dgt (yr (ix d) / 1000) = c0 := byte_eq (by rw [dgt_nat]; omega)
      have e1 : dgt (yr (ix d) / 100) = c1 := byte_eq (by rw [dgt_nat]; omega)
      have e2 : dgt (yr (ix d) / 10) = c2 := byte_eq (by rw [dgt_nat]; omega)
      have e3 : dgt (yr (ix d)) = c3 := byte_eq (by rw [dgt_nat]; omega)
      have e5 : dgt (mn (ix d) / 10) = c5 := byte_eq (by rw [dgt_nat]; omega)
      have e6 : dgt (mn (ix d)) = c6 := byte_eq (by rw [dgt_nat]; omega)
      have e8 : dgt (dy (ix d) / 10) = c8 := byte_eq (by rw [dgt_nat]; omega)
      have e9 : dgt (dy (ix d)) = c9 := byte_eq (by rw [dgt_nat]; omega)
      rw [e0, e1, e2, e3, e5, e6, e8, e9, g4, g7]
    rw [hs]
  · rw [parseR_bad hf] at h
    exact absurd (Prod.mk.inj h).2 (by decide)
/-- what cannot be parsed -/
theorem parse_fails {s : ByteArray} {d e : Int} (h : parseR s = (d, e)) (he : e ≠ 0) : d = 0 ∧ (e = 3 ∨ e = 13) := by
  by_cases hf : formP s
  · rw [parseR_ok hf] at h
    unfold ofR at h
    split at h
    · exact absurd (Prod.mk.inj h).2.symm he
    · obtain ⟨rfl, rfl⟩ := Prod.mk.inj h
      exact ⟨rfl, Or.inr rfl⟩
  · rw [parseR_bad hf] at h
    obtain ⟨rfl, rfl⟩ := Prod.mk.inj h
    exact ⟨rfl, Or.inl rfl⟩
theorem isD_dgt (n : Nat) : isD (dgt n) = true := isD_iff.2 (by rw [dgt_int]; omega)
/-- parsing the text of a day yields it -/
theorem print_parse {d : Int} {t : ByteArray} (hd : okD d = true) (h : printR d = (t, 0)) : parseR t = (d, 0) := by
  unfold printR at h
  rw [if_pos hd] at h
  have ht := (Prod.mk.inj h).1
  obtain ⟨_, hn⟩ := ix_is hd
  have g1 := yr_low (ix d)
  have g2 := yr_high hn
  have g3 := mn_le (ix d)
  have g4 := dy_le (ix d)
  have g5 := mlen_high (yr (ix d)) (mn (ix d))
  have hl : t.data.toList = txt (yr (ix d)) (mn (ix d)) (dy (ix d)) := by rw [← ht]
  have hsz : t.size = 10 := by rw [← size_toList, hl]; rfl
  have hf : formP t := by
    unfold formP
    rw [ext_list, ext_list, ext_list, hl]
    unfold txt
    refine ⟨hsz, rfl, rfl, ?_, ?_, ?_⟩ <;> simp [allD, isD_dgt]
  rw [parseR_ok hf, ext_list, ext_list, ext_list, hl]
  rw [show numI (((txt (yr (ix d)) (mn (ix d)) (dy (ix d))).drop 0).take (0 + 4 - 0)) = (yr (ix d) : Int) by unfold txt; simp [numI, dgt_int]; omega,
    show numI (((txt (yr (ix d)) (mn (ix d)) (dy (ix d))).drop 5).take (5 + 2 - 5)) = (mn (ix d) : Int) by unfold txt; simp [numI, dgt_int]; omega,
    show numI (((txt (yr (ix d)) (mn (ix d)) (dy (ix d))).drop 8).take (8 + 2 - 8)) = (dy (ix d) : Int) by unfold txt; simp [numI, dgt_int]; omega]
  exact of_parts hd rfl rfl rfl

/-! ### The order of texts -/
/-- one comparison after the other -/
def lex (n m : Nat) (b : Bool) : Bool := decide (n < m) || (decide (n = m) && b)
theorem less_dgt (n m : Nat) (x y : List UInt8) : Op.bytesLess (dgt n :: x) (dgt m :: y) = lex (n % 10) (m % 10) (Op.bytesLess x y) := by
  have h1 := dgt_nat n
  have h2 := dgt_nat m
  have hlt : decide (dgt n < dgt m) = decide (n % 10 < m % 10) := by
    rw [decide_eq_decide, UInt8.lt_iff_toNat_lt, h1, h2]; omega
  have heq : (dgt n == dgt m) = decide (n % 10 = m % 10) := by
    rw [Bool.eq_iff_iff, beq_iff_eq, decide_eq_true_iff]
    constructor
    · intro h; have := congrArg UInt8.toNat h; omega
    · intro h; exact byte_eq (by omega)
  show (decide (dgt n < dgt m) || (dgt n == dgt m && Op.bytesLess x y)) = _
  rw [hlt, heq]
  rfl
theorem less_same (c : UInt8) (x y : List UInt8) : Op.bytesLess (c :: x) (c :: y) = Op.bytesLess x y := by
  show (decide (c < c) || (c == c && Op.bytesLess x y)) = _
  simp
theorem lex_ten (n m : Nat) (b : Bool) : lex (n / 10) (m / 10) (lex (n % 10) (m % 10) b) = lex n m b := by
  unfold lex
  by_cases h1 : n < m
  · rw [decide_eq_true h1]
    by_cases h2 : n / 10 < m / 10
    · rw [decide_eq_true h2]; rfl
    · rw [decide_eq_false h2, decide_eq_true (show n / 10 = m / 10 by omega), decide_eq_true (show n % 10 < m % 10 by omega)]
      rfl
  · rw [decide_eq_false h1, decide_eq_false (show ¬ n / 10 < m / 10 by omega)]
    by_cases h3 : n = m
    · subst h3
      simp
    · rw [decide_eq_false h3]
      by_cases h4 : n / 10 = m / 10
      · rw [decide_eq_true h4, decide_eq_false (show ¬ n % 10 < m % 10 by omega), decide_eq_false (show ¬ n % 10 = m % 10 by omega)]
        rfl
      · rw [decide_eq_false h4]
        rfl
theorem lex_mod {n m : Nat} (h1 : n < 10) (h2 : m < 10) (b : Bool) : lex (n % 10) (m % 10) b = lex n m b := by rw [Nat.mod_eq_of_lt h1, Nat.mod_eq_of_lt h2]
theorem less_txt {y m d z k o : Nat} (h1 : y ≤ 9999) (h2 : z ≤ 9999) (h3 : m ≤ 99) (h4 : k ≤ 99) (h5 : d ≤ 99) (h6 : o ≤ 99) :
    Op.bytesLess (txt y m d) (txt z k o) = lex y z (lex m k (lex d o false)) := by
  unfold txt
  rw [less_dgt, less_dgt, less_dgt, less_dgt, less_same, less_dgt, less_dgt, less_same, less_dgt, less_dgt]
  rw [show Op.bytesLess [] [] = false from rfl]
  rw [lex_mod (show d / 10 < 10 by omega) (show o / 10 < 10 by omega), lex_ten]
  rw [lex_mod (show m / 10 < 10 by omega) (show k / 10 < 10 by omega), lex_ten]
  have e1 : y / 100 = y / 10 / 10 := by omega
  have e2 : z / 100 = z / 10 / 10 := by omega
  have e3 : y / 1000 = y / 10 / 10 / 10 := by omega
  have e4 : z / 1000 = z / 10 / 10 / 10 := by omega
  rw [e1, e2, e3, e4, lex_mod (show y / 10 / 10 / 10 < 10 by omega) (show z / 10 / 10 / 10 < 10 by omega), lex_ten, lex_ten, lex_ten]
theorem lex_iff {n m : Nat} {b : Bool} : lex n m b = true ↔ n < m ∨ n = m ∧ b = true := by unfold lex; simp
/-- texts are ordered as days are -/
theorem less_days {a b : Int} {x y : ByteArray} (ha : okD a = true) (hb : okD b = true) (hx : printR a = (x, 0)) (hy : printR b = (y, 0)) : Op.bytesLess x.toList y.toList = decide (a < b) := by
  unfold printR at hx hy
  rw [if_pos ha] at hx
  rw [if_pos hb] at hy
  have ex := (Prod.mk.inj hx).1
  have ey := (Prod.mk.inj hy).1
  obtain ⟨xa, na⟩ := ix_is ha
  obtain ⟨xb, nb⟩ := ix_is hb
  have a1 := yr_high na
  have a2 := mn_le (ix a)
  have a3 := dy_le (ix a)
  have a4 := mlen_high (yr (ix a)) (mn (ix a))
  have a5 := yr_mn (ix a)
  have b1 := yr_high nb
  have b2 := mn_le (ix b)
  have b3 := dy_le (ix b)
  have b4 := mlen_high (yr (ix b)) (mn (ix b))
  have b5 := yr_mn (ix b)
  rw [← ex, ← ey, Lib.toList_data, Lib.toList_data, data_toList, data_toList, less_txt (by omega) (by omega) (by omega) (by omega) (by omega) (by omega), Bool.eq_iff_iff, lex_iff, lex_iff, lex_iff, decide_eq_true_iff]
  obtain ⟨p1, p2⟩ := mo_is (ix a)
  obtain ⟨q1, q2⟩ := mo_is (ix b)
  have hda : dy (ix a) = ix a - st (mo (ix a)) + 1 := rfl
  have hdb : dy (ix b) = ix b - st (mo (ix b)) + 1 := rfl
  have hlex : (yr (ix a) < yr (ix b) ∨ yr (ix a) = yr (ix b) ∧ (mn (ix a) < mn (ix b) ∨ mn (ix a) = mn (ix b) ∧ (dy (ix a) < dy (ix b) ∨ dy (ix a) = dy (ix b) ∧ false = true))) ↔ (mo (ix a) < mo (ix b) ∨ mo (ix a) = mo (ix b) ∧ dy (ix a) < dy (ix b)) := by
    have hff : ¬ (false = true) := by decide
    constructor
    · rintro (h | ⟨h, g | ⟨g, k | ⟨_, k⟩⟩⟩)
      · left; omega
      · left; omega
      · right; omega
      · exact absurd k hff
    · rintro (h | ⟨h, k⟩)
      · by_cases e : yr (ix a) < yr (ix b)
        · exact Or.inl e
        · exact Or.inr ⟨by omega, Or.inl (by omega)⟩
      · exact Or.inr ⟨by omega, Or.inr ⟨by omega, Or.inl k⟩⟩
  rw [hlex]
  rcases Nat.lt_trichotomy (mo (ix a)) (mo (ix b)) with h | h | h
  · have := st_le (show mo (ix a) + 1 ≤ mo (ix b) from h)
    constructor
    · intro _; omega
    · intro _; exact Or.inl h
  · rw [h] at hda p1
    constructor
    · rintro (g | ⟨_, g⟩)
      · omega
      · omega
    · intro g; exact Or.inr ⟨h, by omega⟩
  · have := st_le (show mo (ix b) + 1 ≤ mo (ix a) from h)
    constructor
    · rintro (g | ⟨g, _⟩) <;> omega
    · intro g; omega
end Go.Proofs.YtgpjadlnfofppaaDoor
