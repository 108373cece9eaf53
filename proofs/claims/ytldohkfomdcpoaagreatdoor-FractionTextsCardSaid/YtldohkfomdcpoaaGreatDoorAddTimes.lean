/- integer.addTimes: the walk. -/
import Derived.Test.YtldohkfomdcpoaaGreatDoorMem
import Derived.Test.YtldohkfomdcpoaaGreatDoorSums
namespace Go.Proofs.YtldohkfomdcpoaaGreatDoor
open Go.RowKit
open Num (Part put Filled)

/-- what addTimes leaves: the places filled, nothing else turned -/
def AddPost (w : World) (b o m : Nat) (Z ys : List Int) (f : Int) (w' : World) : Prop :=
  ∃ ws, Filled (Num.part Z o m) ys f ws ∧ Row w' b (put Z o ws) ∧ w.grownBy w' (some b)

def AddRel (w : World) (b o m : Nat) (Z ys : List Int) (f : Int) (k : Nat) (c : Int) (wr : World) : Prop :=
  ∃ zs, Part (Num.part Z o m) ys f k zs c ∧ Row wr b (put Z o zs) ∧ w.grownBy wr (some b)

theorem floor_neg {n : Int} (h : n < n.tdiv 1000000000 * 1000000000) : n.tdiv 1000000000 - 1 = n / 1000000000 := by
  by_cases h0 : 0 ≤ n
  · rw [Int.tdiv_eq_ediv_of_nonneg h0] at h; omega
  · have : n.tdiv 1000000000 = -((-n) / 1000000000) := by
      rw [← Int.tdiv_eq_ediv_of_nonneg (show 0 ≤ -n by omega), Int.neg_tdiv, Int.neg_neg]
    rw [this] at h ⊢; omega
theorem floor_pos {n : Int} (h : ¬ n < n.tdiv 1000000000 * 1000000000) : n.tdiv 1000000000 = n / 1000000000 := by
  by_cases h0 : 0 ≤ n
  · exact Int.tdiv_eq_ediv_of_nonneg h0
  · have : n.tdiv 1000000000 = -((-n) / 1000000000) := by
      rw [← Int.tdiv_eq_ediv_of_nonneg (show 0 ≤ -n by omega), Int.neg_tdiv, Int.neg_neg]
    rw [this] at h ⊢; omega

theorem tdiv_bounds (n : Int) : (0 ≤ n → 0 ≤ n.tdiv 1000000000 * 1000000000 ∧ n.tdiv 1000000000 * 1000000000 ≤ n) ∧ (n ≤ 0 → n ≤ n.tdiv 1000000000 * 1000000000 ∧ n.tdiv 1000000000 * 1000000000 ≤ 0) := by
  constructor
  · intro h; rw [Int.tdiv_eq_ediv_of_nonneg h]; omega
  · intro h
    have : n.tdiv 1000000000 = -((-n) / 1000000000) := by
      rw [← Int.tdiv_eq_ediv_of_nonneg (show 0 ≤ -n by omega), Int.neg_tdiv, Int.neg_neg]
    rw [this]; omega
theorem tdiv_small {n : Int} (h0 : -2000000000000000000 ≤ n) (h1 : n ≤ 2000000000000000000) :
    -2000000000000000000 ≤ n.tdiv 1000000000 * 1000000000 ∧ n.tdiv 1000000000 * 1000000000 ≤ 2000000000000000000 := by
  have := tdiv_bounds n
  by_cases h : 0 ≤ n
  · have := this.1 h; omega
  · have := this.2 (by omega); omega

theorem AddRel.step {w wr : World} {b o m : Nat} {Z ys : List Int} {f : Int} {k : Nat} {zs : List Int} {c s t n q : Int} (hp : Part (Num.part Z o m) ys f k zs c) (hrow : Row wr b (put Z o zs)) (hg : w.grownBy wr (some b))
    (hk : k < m - 1) (hom : o + m ≤ Z.length) (hs : s = Z.getD (o + k) 0) (ht : t = ys.getD k 0) (s0 : 0 ≤ s) (s1 : s < 1000000000) (hb : -999999998000000001 ≤ f * t ∧ f * t ≤ 999999998000000001)
    (hn : n = s + c + f * t) (hq : q = n / 1000000000) : AddRel w b o m Z ys f (k + 1) q (wr.setCell ⟨b, o + k, none⟩ (.int .i64 (n - q * 1000000000))) := by
  have hz := hp.len
  have h1 := hp.step (s := s) (t := t) (n := n) (by rw [hs, Num.part_getD (by omega)]) ht s0 s1 hb hn
  refine ⟨_, hq ▸ h1, ?_, grown_set hg⟩
  rw [← Num.put_snoc _ (by omega), hz]
  have : n - q * 1000000000 = n % Num.B := by unfold Num.B; omega
  rw [this]
  exact hrow.set _ _

set_option maxHeartbeats 1000000 in
theorem addTimes_any (f : Int) (w : World) (b o m cap ob oy capy ly : Nat) (Z ys : List Int) (hly : ys.length = ly) (hr : Row w b Z) (hy : Sl w ob oy capy ys) (hne : ob ≠ b)
    (hm : ly < m) (hom : o + m ≤ Z.length) (hZ : Z.length ≤ 1099511627776) (hn : ∀ i, i + 1 < m → 0 ≤ Z.getD (o + i) 0 ∧ Z.getD (o + i) 0 < Num.B)
    (hl : -4000000000000000000 ≤ Z.getD (o + (m - 1)) 0 ∧ Z.getD (o + (m - 1)) 0 ≤ 4000000000000000000)
    (hys : Num.Norm ys) (f0 : -999999999 ≤ f) (f1 : f ≤ 999999999) :
    Calls Tryz.prog 108 #[.slice (some ⟨b, o, none⟩) m cap, .slice (some ⟨ob, oy, none⟩) ly capy, .int .i64 f] w
      fun e w' => e = .returned (.tuple #[]) ∧ AddPost w b o m Z ys f w' := by
  have HLY := Lib.hid hly
  have HN := Lib.hid hn
  clear hly hn
  have hly' : ly ≤ 1099511627776 := by have := hy.le; have := hy.max; have := HLY.out; omega
  go_enter Tryz.func108, Tryz.ntmps108
  go_wp2
  go_loopw [7, 14] (fun cr i wr => ∃ (k : Nat) (c : Int), k ≤ m - 1 ∧ i = .int .i64 k ∧ cr = .int .i64 c ∧ AddRel w b o m Z ys f k c wr) (fun _ i _ => m - (intOf i).toNat)
  case atStart => exact ⟨0, 0, Nat.zero_le _, rfl, rfl, [], Part.start _ _ _, by rw [Num.put_nil]; exact hr, grown_refl _ _⟩
  case round =>
    obtain ⟨k, c, hk, rfl, rfl, zs, hpart, hrow, hgr⟩ := hrel
    have c0 := hpart.lo
    have c1 := hpart.hi
    have hzl : zs.length = k := hpart.len
    have hplen : (put Z o zs).length = Z.length := Num.put_length (by omega)
    obtain ⟨s, hs⟩ : ∃ s, s = Z.getD (o + k) 0 := ⟨_, rfl⟩
    have hcell : wr.cell? ⟨b, o + k, none⟩ = some (.int .i64 s) := by
      rw [hrow.cell (by omega), Num.put_getD_behind (by omega) (by omega), hs]
    have hfz : wr.frozen? ⟨b, o + k, none⟩ = false := hrow.frozen _
    have HP := Lib.hid hpart
    have HR := Lib.hid hrow
    have HG := Lib.hid hgr
    have HZ := Lib.hid hzl
    have HPL := Lib.hid hplen
    have HS := Lib.hid hs
    clear hpart hrow hgr hzl hplen hs
    by_cases hlast : k < m - 1
    · have hsb : 0 ≤ s ∧ s < 1000000000 := by have := HN.out k (by omega); rw [← HS.out] at this; unfold Num.B at this; exact this
      by_cases hky : k < ly
      · obtain ⟨t, ht⟩ : ∃ t, t = ys.getD k 0 := ⟨_, rfl⟩
        have hyc : wr.cell? ⟨ob, oy + k, none⟩ = some (.int .i64 t) := by
          rw [ht]; exact (hy.grown HG.out (by simp; exact hne)).cell k (by rw [HLY.out]; exact hky)
        have htb := hys.at (show k < ys.length by rw [HLY.out]; exact hky)
        have hte : ys[k]'(by rw [HLY.out]; exact hky) = t := by rw [ht]; simp [List.getD, show k < ys.length by rw [HLY.out]; exact hky]
        rw [hte] at htb
        have hft := Num.mul_bounds f0 f1 htb.1 htb.2
        have HT := Lib.hid ht
        clear hte ht htb
        have hnb := tdiv_small (n := s + c + f * t) (by omega) (by omega)
        go_wp2
        · have hlt : s + c + f * t < (s + c + f * t).tdiv 1000000000 * 1000000000 := by assumption
          have H := AddRel.step HP.out HR.out HG.out hlast hom HS.out HT.out hsb.1 hsb.2 hft rfl (floor_neg hlt)
          go_roundw
          case rel => exact ⟨k + 1, _, by omega, by go_num, rfl, H⟩
          case measure => simp [intOf]; omega
        · have hlt : ¬ s + c + f * t < (s + c + f * t).tdiv 1000000000 * 1000000000 := by
            have : (s + c + f * t).tdiv 1000000000 * 1000000000 ≤ s + c + f * t := by assumption
            omega
          have H := AddRel.step HP.out HR.out HG.out hlast hom HS.out HT.out hsb.1 hsb.2 hft rfl (floor_pos hlt)
          go_roundw
          case rel => exact ⟨k + 1, _, by omega, by go_num, rfl, H⟩
          case measure => simp [intOf]; omega
      · have hnb := tdiv_small (n := s + c) (by omega) (by omega)
        have ht : 0 = ys.getD k 0 := by have := HLY.out; simp [List.getD, List.getElem?_eq_none (show ys.length ≤ k by omega)]
        have HT := Lib.hid ht
        clear ht
        go_wp2
        · have hlt : s + c < (s + c).tdiv 1000000000 * 1000000000 := by assumption
          have H := AddRel.step HP.out HR.out HG.out hlast hom HS.out HT.out hsb.1 hsb.2 (by omega) (n := s + c) (by omega) (floor_neg hlt)
          go_roundw
          case rel => exact ⟨k + 1, _, by omega, by go_num, rfl, H⟩
          case measure => simp [intOf]; omega
        · have hlt : ¬ s + c < (s + c).tdiv 1000000000 * 1000000000 := by
            have : (s + c).tdiv 1000000000 * 1000000000 ≤ s + c := by assumption
            omega
          have H := AddRel.step HP.out HR.out HG.out hlast hom HS.out HT.out hsb.1 hsb.2 (by omega) (n := s + c) (by omega) (floor_pos hlt)
          go_roundw
          case rel => exact ⟨k + 1, _, by omega, by go_num, rfl, H⟩
          case measure => simp [intOf]; omega
    · obtain rfl : k = m - 1 := by omega
      have hfin : AddPost w b o m Z ys f (wr.setCell ⟨b, o + (m - 1), none⟩ (.int .i64 (s + c))) := by
        have hz := HP.out.len
        have hf := HP.out.filled (by rw [Num.part_length hom]; omega) (by have := HLY.out; omega)
        rw [Num.part_getD (by omega), ← HS.out] at hf
        refine ⟨_, hf, ?_, grown_set HG.out⟩
        rw [← Num.put_snoc _ (by omega), hz]
        exact HR.out.set _ _
      have HF := Lib.hid hfin
      clear hfin
      have hlb := hl
      rw [← HS.out] at hlb
      clear hl
      go_wp2
      go_end0
      exact ⟨rfl, HF.out⟩
end Go.Proofs.YtldohkfomdcpoaaGreatDoor
