/- The reference implementation of layer 1: divide: the walk. -/
import Derived.Test.YtldohkfomdcpoaaGreatDoorRefN
namespace Go.Proofs.YtldohkfomdcpoaaGreatDoor
open Go.RowKit

theorem wp_addMany {w : World} {ops : Array Oper} {rest : List Oper} {o : Oper} {a : Act} {Q : Exit → Act → World → Prop} (hgd : o.guard = none) (sl x : Operand)
    (ho : o.op = .call { callee := .builtin .append, args := #[sl, x], argTypes := #[80, 80] })
    (base : Nat) (v : Value) (l : List Int) (hs : a.eval sl = v) (h : Own w base v l) (xa : Option Addr) (cap : Nat) (ms : List Int) (hx : a.eval x = .slice xa ms.length cap) (hr : Rd w xa cap ms) (h0 : xa = none → cap = 0) (hl : l.length + ms.length ≤ 10000000) (hb : base ≤ w.heap.size)
    (hK : ∀ v' w', Own w' base v' (l ++ ms) → Below base w w' → wpList Tryz.prog ops Q rest (a.put o.dst v') w') : wpList Tryz.prog ops Q (o :: rest) a w := by
  refine wpList_plain hgd fun K hK' => ?_
  obtain ⟨v', w', hr, h2, h3⟩ := h.addMany xa cap ms.length rfl hr h0 o.type hl hb
  unfold Oper.wp execOp
  simp only [ho, resolve, invoke, builtin, Sem.run_bind, Sem.run_pure, Result.andThen_ok, List.map_toArray, List.map_cons, List.map_nil, hs, hx, hr]
  exact hK' _ _ (hK v' w' h2 h3)

/-- what divide leaves -/
def RDivided (w : World) (xs ys : List Int) (e : Ending) (w' : World) : Prop :=
  ∃ qs rs qa qcap ra rcap, e = .returned (.tuple #[.slice qa (List.length qs) qcap, .slice ra (List.length rs) rcap]) ∧ Num.Can qs ∧ Num.Can rs ∧ Num.gval xs = Num.gval qs * Num.gval ys + Num.gval rs ∧ Num.gval rs < Num.gval ys ∧
    Rd w' qa qcap qs ∧ Rd w' ra rcap rs ∧ qs.length ≤ 150 ∧ rs.length ≤ 151 ∧ Below w.heap.size w w'

/-- z places are still to be done -/
structure DRel (w : World) (xs ys : List Int) (n z : Nat) (Q rs : List Int) (ra : Option Addr) (rcap : Nat) (wr : World) : Prop where
  inv : QInv xs ys n z Q (Num.gval rs)
  can : Num.Can rs
  len : rs.length ≤ 151
  rd : Rd wr ra rcap rs
  nocap : ra = none → rcap = 0
  apart : ∀ b o, ra = some ⟨b, o, none⟩ → b ≠ w.heap.size
  row : Row wr w.heap.size Q
  below : Below w.heap.size w wr
  size : w.heap.size + 1 ≤ wr.heap.size

theorem less_length {rs ys : List Int} (cr : Num.Can rs) (cy : Num.Norm ys) (h : Num.gval rs < Num.gval ys) : rs.length ≤ ys.length := diff_length cr cy (by omega)

set_option maxRecDepth 100000 in
set_option maxHeartbeats 8000000 in
theorem rDivide_any (w : World) (xa ya : Option Addr) (cap capy n m : Nat) (xs ys : List Int) (hn : xs.length = n) (hm : ys.length = m) (hx : Rd w xa cap xs) (hy : Rd w ya capy ys) (cx : Num.Can xs) (cy : Num.Can ys) (hy0 : ys ≠ []) (hlim : n ≤ 150 ∧ m ≤ 150) :
    Calls Tryz.prog 84 #[.slice xa n cap, .slice ya m capy] w (RDivided w xs ys) := by
  have hmk := run_makeInts n (by omega)
  have hY := Num.gval_pos cy hy0
  have hst : DRel w xs ys n n (List.replicate n 0) [] (some ⟨w.heap.size + 1, 0, none⟩) 0 ((w.alloc (zeroRow n)).alloc (.cells #[] 3)) :=
    ⟨QInv.start hn hY, Num.Can.nil, by simp, Rd.nil _ _ _, fun e => (by cases e), fun b o e => (by injection e with e; injection e with e; omega), (Row.made w n).alloc _, ((Below.refl _ _).alloc (Nat.le_refl _) _).alloc (by simp) _, by simp⟩
  have HST := Lib.hid hst
  have HN := Lib.hid hn
  have HM := Lib.hid hm
  clear hst hn hm hy0
  go_enter Tryz.func84, Tryz.ntmps84
  go_wp2_with fail
  clear hmk
  go_loopw [7, 8] (fun rv iv wr => ∃ (z : Nat) (Q rs : List Int) (ra : Option Addr) (rcap : Nat), z ≤ n ∧ iv = .int .i64 ((z : Int) - 1) ∧ rv = .slice ra rs.length rcap ∧ DRel w xs ys n z Q rs ra rcap wr) (fun _ iv _ => (intOf iv + 1).toNat)
  case atStart => exact ⟨n, _, [], _, _, Nat.le_refl _, rfl, rfl, HST.out⟩
  case round =>
    clear HST
    obtain ⟨z, Q, rs, ra, rcap, hz, rfl, rfl, hr⟩ := hrel
    have HR := Lib.hid hr
    clear hr
    by_cases hz0 : z = 0
    · subst hz0
      have hsl := (HR.out.row.sl (cap := n) (by rw [HR.out.inv.qlen]; exact Nat.le_refl _) (by omega)).sr (by rw [HR.out.inv.qlen]; omega)
      have hrd : Rd wr (some ⟨w.heap.size, 0, none⟩) n Q := ⟨by rw [HR.out.inv.qlen]; omega, fun _ => ⟨_, 0, rfl, hsl⟩⟩
      have hpre := hrd.prefix (Num.trimmed_prefix Q)
      have heq : Num.gval xs = Num.gval (Num.trimmed Q) * Num.gval ys + Num.gval rs := by
        have := HR.out.inv.eq
        rw [Num.gval_trimmed]; simpa using this
      have hl1 : (Num.trimmed Q).length ≤ 150 := by have := (Num.trimmed_prefix Q).length_le; have := HR.out.inv.qlen; omega
      have hfin : RDivided w xs ys (.returned (.tuple #[.slice (some ⟨w.heap.size, 0, none⟩) (Num.trimmed Q).length n, .slice ra rs.length rcap])) wr :=
        ⟨_, rs, _, _, ra, rcap, rfl, Num.Can.trimmed HR.out.inv.qnorm, HR.out.can, heq, HR.out.inv.r1, hpre, HR.out.rd, hl1, HR.out.len, HR.out.below⟩
      have HF := Lib.hid hfin
      have HQL := Lib.hid HR.out.inv.qlen
      clear heq hfin hl1 hpre hsl
      go_wp2_with fail
      refine (rTrim_any wr _ _ n Q HQL.out hrd).mono ?_
      rintro e _ ⟨rfl, rfl⟩
      go_wp2_with fail
      go_ret2
      exact HF.out
    · obtain ⟨i, rfl⟩ : ∃ i, z = i + 1 := ⟨z - 1, by omega⟩
      rw [show ((i + 1 : Nat) : Int) - 1 = (i : Int) by omega]
      have hin : i < n := by omega
      obtain ⟨x, hxx⟩ : ∃ x, x = xs.getD i 0 := ⟨_, rfl⟩
      have hxb := cx.1.getD i
      rw [← hxx] at hxb
      unfold Num.B at hxb
      obtain ⟨b, o, rfl, hsr⟩ := hx.sl (by have := HN.out; omega)
      have hcell : wr.cell? ⟨b, o + i, none⟩ = some (.int .i64 x) := by
        rw [hxx]; exact (hsr.below HR.out.below hsr.lt).cell i (by have := HN.out; omega)
      have hcapb : n ≤ cap := by have := hsr.le; have := HN.out; omega
      have hcapm := hsr.max
      have HX := Lib.hid hxx
      have hO := Own.one wr x
      have hBa := (Below.refl wr.heap.size wr).alloc (Nat.le_refl _) (.cells #[.int .i64 x] 3)
      have hRa := HR.out.rd.below hBa
      obtain ⟨L, hL⟩ : ∃ L, L = ([x] ++ rs).length := ⟨_, rfl⟩
      have hL2 : ([x] ++ rs).length ≤ 1000000 := by simp; have := HR.out.len; omega
      have hlr := HR.out.len
      have HO := Lib.hid hO
      have HBa := Lib.hid hBa
      have HRa := Lib.hid hRa
      have HL := Lib.hid hL
      have HL2 := Lib.hid hL2
      obtain ⟨ts, hts⟩ : ∃ ts, ts = Num.trimmed ([x] ++ rs) := ⟨_, rfl⟩
      have hnorm : Num.Norm ([x] ++ rs) := (Num.Norm.one hxb.1 hxb.2).append HR.out.can.1
      have htc : Num.Can ts := by rw [hts]; exact Num.Can.trimmed hnorm
      have htg : Num.gval ts = x + 1000000000 * Num.gval rs := by rw [hts, Num.gval_trimmed]; simp [Num.gval]
      have htl : ts.length ≤ 152 := by
        have h1 := (Num.trimmed_prefix ([x] ++ rs)).length_le
        have h2 : ([x] ++ rs).length = rs.length + 1 := by simp
        rw [hts]; omega
      have hg0 := HR.out.inv.r0
      have hg1 := HR.out.inv.r1
      obtain ⟨R, hR⟩ : ∃ R, R = Num.gval ts := ⟨_, rfl⟩
      have hR0 : 0 ≤ R := by rw [hR, htg]; omega
      have hR1 : R < 1000000000 * Num.gval ys := by rw [hR, htg]; omega
      have HSI := Lib.hid (SInv.start hR0 hR1)
      have HTS := Lib.hid hts
      have HTG := Lib.hid htg
      have HRR := Lib.hid hR
      clear hxx hO hBa hRa hL hL2 hts hnorm htg hg0 hg1 hR hR0 hR1 hz0
      go_wp2_with (at_builtin; refine wp_addMany rfl _ _ rfl wr.heap.size _ _ rfl HO.out ra rcap rs rfl HRa.out HR.out.nocap (by simp; omega) HBa.out.size ?_; intro v1 W2 hO1 hB1; obtain ⟨va, vc, hv1, hrd1⟩ := hO1.rd HL2.out; rw [← HL.out] at hv1; subst hv1; have HAT := Lib.hid (Own.at hO1); have HNC := Lib.hid (Own.nilcap hO1); have HB2 := Lib.hid (HBa.out.trans hB1); have HRD1 := Lib.hid hrd1; clear hO1 hB1 hrd1)
      refine (rTrim_any W2 va vc L ([x] ++ rs) HL.out.symm HRD1.out).mono ?_
      rintro e _ ⟨rfl, rfl⟩
      rw [← HTS.out]
      have hts2 : ts <+: [x] ++ rs := by rw [HTS.out]; exact Num.trimmed_prefix _
      have hrt := HRD1.out.prefix hts2
      have hrow2 := HR.out.row.below HB2.out HR.out.row.lt
      have hB2w := HR.out.below.trans (HB2.out.mono HR.out.below.size)
      have HRT := Lib.hid hrt
      have HROW2 := Lib.hid hrow2
      have HB2W := Lib.hid hB2w
      have HY2 := Lib.hid (hy.below hB2w)
      have hst3 : SInv (Num.gval ys) R 0 999999999 ∧ Below W2.heap.size W2 W2 := ⟨HSI.out, Below.refl _ _⟩
      have HST3 := Lib.hid hst3
      clear hts2 hrt hrow2 hB2w hst3 hcell
      go_wp2_with fail
      go_loopw [9, 10] (fun lv hv wq => ∃ lo hi : Int, lv = .int .i64 lo ∧ hv = .int .i64 hi ∧ SInv (Num.gval ys) R lo hi ∧ Below W2.heap.size W2 wq) (fun lv hv _ => (intOf hv - intOf lv).toNat)
      case atStart => exact ⟨0, 999999999, rfl, rfl, HST3.out.1, HST3.out.2⟩
      case round =>
        clear HST3 HSI
        obtain ⟨lo, hi, rfl, rfl, hs, hBq⟩ := hrel
        have hlo := hs.lo0
        have hle := hs.le
        have hhi := hs.hi1
        have HS := Lib.hid hs
        have HBq := Lib.hid hBq
        clear hs hBq
        by_cases hlt : lo < hi
        · obtain ⟨mid, hmid⟩ : ∃ mid, (lo + hi + 1) / 2 = mid := ⟨_, rfl⟩
          have hmb : lo < mid ∧ mid ≤ hi := by omega
          obtain ⟨ps, hps⟩ : ∃ ps, ps = Num.groups (Num.gval ys * mid) := ⟨_, rfl⟩
          have hpc : Num.Can ps := by rw [hps]; exact Num.Can.groups _
          have hpg : Num.gval ps = Num.gval ys * Num.gval [mid] := by rw [hps, Num.gval_groups (Int.mul_nonneg (by omega) (by omega)), Num.gval_one]
          have hnm : Num.Norm [mid] := Num.Norm.one (by omega) (by unfold Num.B; omega)
          have HPG := Lib.hid hpg
          clear hps hpg
          go_wp2_with fail
          obtain ⟨W3, hW3⟩ : ∃ W3, W3 = wr.alloc (.cells #[.int .i64 mid] 3) := ⟨_, rfl⟩
          have hB3 : Below wr.heap.size wr W3 := by rw [hW3]; exact (Below.refl _ _).alloc (Nat.le_refl _) _
          have hrd3 : Rd W3 (some ⟨wr.heap.size, 0, none⟩) 1 [mid] := by rw [hW3]; exact ⟨by simp, fun _ => ⟨_, 0, rfl, (one_sl wr mid).sr (by simp)⟩⟩
          have hB23 := HBq.out.trans (hB3.mono HBq.out.size)
          rw [← hW3]
          clear hW3
          refine (rTimes_any W3 ya (some ⟨wr.heap.size, 0, none⟩) capy 1 m 1 ys [mid] HM.out rfl (HY2.out.below hB23) hrd3 cy.1 hnm (by omega) ps hpc HPG.out).mono ?_
          rintro e W4 ⟨pa, pc, rfl, hrdp, hB4, _⟩
          have hB24 := hB23.trans (hB4.mono hB23.size)
          have HRT4 := Lib.hid (HRT.out.below hB24)
          have HB24 := Lib.hid hB24
          clear hB3 hrd3 hB23 hB4 hB24
          go_wp2_with fail
          refine (rOrder_any W4 pa va pc vc _ _ ps ts rfl rfl hrdp HRT4.out hpc htc).mono ?_
          rintro e _ ⟨rfl, k, rfl⟩
          obtain ⟨c, hc⟩ : ∃ c, c = cmp3 (Num.gval ps) (Num.gval ts) := ⟨_, rfl⟩
          rw [← hc]
          have hpm : Num.gval ps = Num.gval ys * mid := by rw [HPG.out, Num.gval_one]
          rw [hpm, ← HRR.out] at hc
          by_cases hle2 : Num.gval ys * mid ≤ R
          · have hcc : c ≤ 0 := by rw [hc]; unfold cmp3; split <;> (try split) <;> omega
            have HUP := Lib.hid (HS.out.up hmb.1 hmb.2 hle2)
            clear hc hpm hle2
            go_wp2_with fail
            go_roundw
            case rel => exact ⟨mid, hi, rfl, rfl, HUP.out, below_drewN HB24.out k⟩
            case measure => simp [intOf]; omega
          · have hcc : ¬ c ≤ 0 := by rw [hc, cmp3_gt (by omega)]; decide
            have HDN := Lib.hid (HS.out.down hmb.1 hmb.2 hle2)
            clear hc hpm hle2
            go_wp2_with fail
            go_roundw
            case rel => exact ⟨lo, mid - 1, rfl, rfl, HDN.out, below_drewN HB24.out k⟩
            case measure => simp [intOf]; omega
        · obtain rfl : lo = hi := by omega
          have hrq := HROW2.out.below HBq.out HROW2.out.lt
          have hcq := hrq.cell (i := i) (by rw [HR.out.inv.qlen]; exact hin)
          have hfq := hrq.frozen i
          obtain ⟨W5, hW5⟩ : ∃ W5, W5 = wr.setCell ⟨w.heap.size, i, none⟩ (.int .i64 lo) := ⟨_, rfl⟩
          have hrow5 : Row W5 w.heap.size (Q.set i lo) := by rw [hW5]; exact hrq.set _ _
          have hfar : ∀ b o, va = some ⟨b, o, none⟩ → b ≠ w.heap.size := fun b o e => by have := HAT.out b o e; have := HR.out.size; omega
          have hrt5 : Rd W5 va vc ts := by rw [hW5]; exact (HRT.out.below HBq.out).setOther (a := ⟨w.heap.size, i, none⟩) hfar _
          have hB5 : Below w.heap.size w W5 := by rw [hW5]; exact (HB2W.out.trans (HBq.out.mono HB2W.out.size)).setCell (p := ⟨w.heap.size, i, none⟩) (Nat.le_refl _) _
          have hsz5 : w.heap.size + 1 ≤ W5.heap.size := by rw [hW5]; have h1 := HBq.out.size; have h2 := HB2.out.size; have h3 := HR.out.size; simp [World.setCell]; omega
          have hsz : W5.heap.size = wr.heap.size := by rw [hW5]; simp [World.setCell]
          have HSZ := Lib.hid hsz
          have hstep := HR.out.inv.step hin HN.out hlo (by omega) (R' := R) (by rw [HRR.out, HTG.out, HX.out]) HS.out.low HS.out.high
          have HROW5 := Lib.hid hrow5
          have HFAR := Lib.hid hfar
          have HRT5 := Lib.hid hrt5
          have HB5 := Lib.hid hB5
          have HSZ5 := Lib.hid hsz5
          have HSTEP := Lib.hid hstep
          have HY5 := Lib.hid (hy.below hB5)
          clear hrq hrow5 hfar hrt5 hB5 hsz5 hsz hstep hlt
          by_cases hl0 : 0 < lo
          · obtain ⟨ps, hps⟩ : ∃ ps, ps = Num.groups (Num.gval ys * lo) := ⟨_, rfl⟩
            have hpc : Num.Can ps := by rw [hps]; exact Num.Can.groups _
            have hpg : Num.gval ps = Num.gval ys * Num.gval [lo] := by rw [hps, Num.gval_groups (Int.mul_nonneg (by omega) (by omega)), Num.gval_one]
            have hnm : Num.Norm [lo] := Num.Norm.one (by omega) (by unfold Num.B; omega)
            obtain ⟨zs, hzs⟩ : ∃ zs, zs = Num.groups (R - lo * Num.gval ys) := ⟨_, rfl⟩
            have hzc : Num.Can zs := by rw [hzs]; exact Num.Can.groups _
            have hzR : Num.gval zs = R - lo * Num.gval ys := by rw [hzs, Num.gval_groups HSTEP.out.r0]
            have hzg : Num.gval zs = Num.gval ts - Num.gval ps := by rw [hzR, hpg, Num.gval_one, ← HRR.out, Int.mul_comm]
            have hzl : zs.length ≤ 151 := by have := less_length hzc cy.1 (by rw [hzR]; exact HSTEP.out.r1); have := HM.out; omega
            have HPG := Lib.hid hpg
            have HZG := Lib.hid hzg
            have HZL := Lib.hid hzl
            have HZR := Lib.hid hzR
            clear hps hpg hzs hzR hzg hzl
            go_wp2_with fail
            rw [← hW5]
            clear hW5 hcq hfq
            obtain ⟨W6, hW6⟩ : ∃ W6, W6 = W5.alloc (.cells #[.int .i64 lo] 3) := ⟨_, rfl⟩
            have hB6 : Below W5.heap.size W5 W6 := by rw [hW6]; exact (Below.refl _ _).alloc (Nat.le_refl _) _
            have hrd6 : Rd W6 (some ⟨wr.heap.size, 0, none⟩) 1 [lo] := by rw [hW6, ← HSZ.out]; exact ⟨by simp, fun _ => ⟨_, 0, rfl, (one_sl W5 lo).sr (by simp)⟩⟩
            rw [← hW6]
            clear hW6
            refine (rTimes_any W6 ya (some ⟨wr.heap.size, 0, none⟩) capy 1 m 1 ys [lo] HM.out rfl (HY5.out.below hB6) hrd6 cy.1 hnm (by omega) ps hpc HPG.out).mono ?_
            rintro e W7 ⟨pa, pc, rfl, hrdp, hB7, _⟩
            have hB57 := hB6.trans (hB7.mono hB6.size)
            have HB57 := Lib.hid hB57
            clear hB6 hrd6 hB7 hB57
            go_wp2_with fail
            refine (rMinus_any W7 va pa vc pc _ _ ts ps rfl rfl (HRT5.out.below HB57.out) hrdp htc hpc (by omega) zs hzc HZG.out).mono ?_
            rintro e W8 ⟨qa, qc, rfl, hrdz, hB8, hat8, hnc8⟩
            have hB58 := HB57.out.trans (hB8.mono HB57.out.size)
            have hfin : DRel w xs ys n i (Q.set i lo) zs qa qc W8 := by
              have h := HSTEP.out
              rw [← HZR.out] at h
              refine ⟨h, hzc, HZL.out, hrdz, hnc8, fun b o e => ?_, HROW5.out.below hB58 HROW5.out.lt, HB5.out.trans (hB58.mono HB5.out.size), by have := hB58.size; have := HSZ5.out; omega⟩
              have h1 := hat8 b o e
              have h2 := HB57.out.size
              have h3 := HSZ5.out
              omega
            have HF := Lib.hid hfin
            clear hfin hrdz hB8 hat8 hnc8 hB58 hrdp
            go_wp2_with fail
            go_roundw
            case rel => exact ⟨i, _, zs, qa, qc, by omega, rfl, rfl, HF.out⟩
            case measure => simp [intOf]
          · obtain rfl : lo = 0 := by omega
            have hfin : DRel w xs ys n i (Q.set i 0) ts va vc W5 := by
              have h := HSTEP.out
              rw [Int.zero_mul, Int.sub_zero, HRR.out] at h
              exact ⟨h, htc, by have := less_length htc cy.1 h.r1; have := HM.out; omega, HRT5.out, HNC.out, HFAR.out, HROW5.out, HB5.out, HSZ5.out⟩
            have HF := Lib.hid hfin
            clear hfin
            go_wp2_with fail
            rw [← hW5]
            go_roundw
            case rel => exact ⟨i, _, ts, va, vc, by omega, rfl, rfl, HF.out⟩
            case measure => simp [intOf]

end Go.Proofs.YtldohkfomdcpoaaGreatDoor
