/- Layer 5: the laws over the program's contracts: their ways joined. -/
import Derived.Test.YtahnkmkmoalbhaaGreatDoorZAI
import Derived.Test.YtahnkmkmoalbhaaGreatDoorZAO
import Derived.Laws.StructEq
namespace Go.Proofs.YtahnkmkmoalbhaaGreatDoor
open Go.RowKit

/-- all of the program's contracts that the laws of this seat ask -/
structure MoneyAll : Prop where
  ok : MoneyOk
  put : ∀ {n : Nat} {u v : Nat → ByteArray} {c z : ByteArray}, Shrt n u v → c.size ≤ 8 → z.size ≤ 13 → OnM 20 n u v c z (BagP (putO n u v c z).1 (putO n u v c z).2)
  amt : ∀ {n : Nat} {u v : Nat → ByteArray} (c : ByteArray), Shrt n u v → OnC 26 n u v c (ValP (.string (amtS n u v c)))
theorem ams_any (h : MoneyAll) (xa ya : Option Addr) (n m ca cb : Nat) (u v s t : Nat → ByteArray) (w : World) (hG : Ground w) (hx : Rf w xa n u v) (hy : Rf w ya m s t) (hn : n ≤ 9223372036854775807) (hm : m ≤ 9223372036854775807) (hca : n ≤ ca) (hcb : m ≤ cb) :
    Calls Tryz.prog 5 #[.slice xa n ca, .slice ya m cb] w (ValP (.bool true) w) := by
  obtain ⟨ca, rfl⟩ : ∃ k, ca = n + k := ⟨ca - n, by omega⟩
  obtain ⟨cb, rfl⟩ : ∃ k, cb = m + k := ⟨cb - m, by omega⟩
  cases hg : (greatB n u v || greatB m s t) with
  | true => exact ams_great h.ok.awake xa ya n m ca cb u v s t w hG hx hy hn hm hg
  | false => exact ams_ok h.ok.awake h.ok.sum xa ya n m ca cb u v s t w hG hx hy hn hm hg
theorem amb_any (h : MoneyAll) (xa : Option Addr) (n ca : Nat) (u v : Nat → ByteArray) (c z : ByteArray) (w : World) (hG : Ground w) (hx : Rf w xa n u v) (hn : n ≤ 9223372036854775807) (hca : n ≤ ca) :
    Calls Tryz.prog 4 #[.slice xa n ca, .agg #[.string c, .string z]] w (ValP (.bool true) w) := by
  obtain ⟨ca, rfl⟩ : ∃ k, ca = n + k := ⟨ca - n, by omega⟩
  cases hg : greatB n u v with
  | true => exact amb_great h.ok.awake xa n ca u v c z w hG hx hn hg
  | false =>
    cases hl : wideB c z with
    | true => exact amb_long h.ok.awake xa n ca u v c z w hG hx hn hg hl
    | false => exact amb_ok h.ok.awake h.put h.ok.neg h.ok.chk h.amt xa n ca u v c z w hG hx hn hg hl
theorem amg_any (h : MoneyAll) (xa ya za : Option Addr) (n m k ca cb cc : Nat) (u v s t p q : Nat → ByteArray) (w : World) (hG : Ground w) (hx : Rf w xa n u v) (hy : Rf w ya m s t) (hz : Rf w za k p q) (hn : n ≤ 9223372036854775807) (hm : m ≤ 9223372036854775807) (hk : k ≤ 9223372036854775807) (hca : n ≤ ca) (hcb : m ≤ cb) (hcc : k ≤ cc) :
    Calls Tryz.prog 7 #[.slice xa n ca, .slice ya m cb, .slice za k cc] w (ValP (.bool true) w) := by
  obtain ⟨ca, rfl⟩ : ∃ k, ca = n + k := ⟨ca - n, by omega⟩
  obtain ⟨cb, rfl⟩ : ∃ k, cb = m + k := ⟨cb - m, by omega⟩
  obtain ⟨cc, rfl⟩ : ∃ j, cc = k + j := ⟨cc - k, by omega⟩
  cases hg : (greatB n u v || (greatB m s t || greatB k p q)) with
  | true => exact amg_great h.ok xa ya za n m k ca cb cc u v s t p q w hG hx hy hz hn hm hk hg
  | false =>
    by_cases hl : 15 < n + m + k
    · exact amg_many h.ok xa ya za n m k ca cb cc u v s t p q w hG hx hy hz hn hm hk hg hl
    · by_cases h1 : bagE isCan n u v = 0
      · by_cases h2 : bagE isCan m s t = 0
        · by_cases h3 : bagE isCan k p q = 0
          · exact amg_ok h.ok xa ya za n m k ca cb cc u v s t p q w hG hx hy hz hn hm hk hg (by omega) h1 h2 h3
          · exact amg_bad3 h.ok xa ya za n m k ca cb cc u v s t p q w hG hx hy hz hn hm hk hg (by omega) h1 h2 h3
        · exact amg_bad2 h.ok xa ya za n m k ca cb cc u v s t p q w hG hx hy hz hn hm hk hg (by omega) h1 h2
      · exact amg_bad1 h.ok xa ya za n m k ca cb cc u v s t p q w hG hx hy hz hn hm hk hg (by omega) h1
theorem amp_any (h : MoneyAll) (xa : Option Addr) (n ca : Nat) (u v : Nat → ByteArray) (b : Int) (w : World) (hG : Ground w) (hx : Rf w xa n u v) (hb : 0 ≤ b) (hb8 : b ≤ 255) :
    Calls Tryz.prog 9 #[.slice xa n ca, .int .u8 b] w (ValP (.bool true) w) := by
  obtain ⟨b, rfl⟩ : ∃ k : Nat, b = k := ⟨b.toNat, by omega⟩
  by_cases hn : 8 < n
  · exact amp_many h.ok xa n ca b w hG hn
  · cases hl : (List.range n).any (fun i => outP (u i) (v i)) with
    | true => exact amp_out h.ok xa n ca u v b w hG hx (by omega) hl
    | false => exact amp_ok h.ok h.put xa n ca u v b w hG hx (by omega) (by omega) hl
end Go.Proofs.YtahnkmkmoalbhaaGreatDoor

/- Layer 5: the laws' awake; all of the program's contracts. -/
namespace Go.Proofs.YtahnkmkmoalbhaaGreatDoor
open Go.RowKit

set_option maxRecDepth 100000 in
set_option maxHeartbeats 16000000 in
theorem mawake (w : World) (hG : Ground w) : Calls Tryz.prog 13 #[] w (ValP (.bool true) w) := by
  have HG := Lib.hid hG
  have T1 := Lib.hid (fun W (xa : Option Addr) => aw_text1 W xa 0)
  have T2 := Lib.hid (fun W (xa : Option Addr) => aw_text2 W xa 0)
  have P1 := Lib.hid (fun W (xa : Option Addr) => aw_parse1 W xa 0)
  have P2 := Lib.hid (fun W (xa : Option Addr) => aw_parse2 W xa 0)
  have S1 := Lib.hid (fun W (xa ya : Option Addr) => aw_sum W xa ya 0 0)
  have EQ := Lib.hid (fun W xa ya c d hx hy => eqBag [(sEUR, 5), (sJPY, 7)] (by decide) W xa ya c d hx hy)
  have hmax4 : ∀ W : World, (Builtin.max_ #[29, 29, 29, 29] 29 #[.int .i64 0, .int .i64 0, .int .i64 0, .int .i64 0]).run Tryz.prog W = .ok (.int .i64 0) W := fun W => by simp [Builtin.max_, Builtin.max2]
  unfold ValP strE at T1 T2
  unfold ValP monE at P1 P2
  unfold BagP at S1
  unfold ValP at EQ ⊢
  unfold sUSD at P1
  unfold sUSD at T1
  unfold sJPY at T2
  unfold sHalf at P1
  unfold sFine at P2
  clear hG
  go_enter Tryz.func13, Tryz.ntmps13
  go_wp2_with fail
  refine (aExample _).mono ?_
  rintro _ w1 ⟨b1, rfl, hr, hb⟩
  go_wp2_with fail
  refine (T1.out w1 _ (HG.out.below hb) hr).mono ?_
  rintro _ w2 ⟨rfl, hB⟩
  replace hb := hb.trans (hB.mono hb.size)
  clear hB hr
  go_wp2_with fail
  refine (aExample _).mono ?_
  rintro _ w3 ⟨b2, rfl, hr, hB⟩
  replace hb := hb.trans (hB.mono hb.size)
  clear hB
  go_wp2_with fail
  refine (T2.out w3 _ (HG.out.below hb) hr).mono ?_
  rintro _ w4 ⟨rfl, hB⟩
  replace hb := hb.trans (hB.mono hb.size)
  clear hB hr
  go_wp2_with fail
  refine (aExample _).mono ?_
  rintro _ w5 ⟨b3, rfl, hr, hB⟩
  replace hb := hb.trans (hB.mono hb.size)
  clear hB
  go_wp2_with fail
  refine (P1.out w5 _ (HG.out.below hb) hr).mono ?_
  rintro _ w6 ⟨rfl, hB⟩
  replace hb := hb.trans (hB.mono hb.size)
  clear hB hr
  obtain ⟨E1, hE1⟩ : ∃ s, w6.heap.size = s := ⟨_, rfl⟩
  obtain ⟨X1, hX1⟩ : ∃ V, V = w6.alloc (.cells #[.string ⟨#[85, 83, 68]⟩, .string ⟨#[53, 48]⟩] 35) := ⟨_, rfl⟩
  have hA : PairAt X1 E1 35 ⟨#[85, 83, 68]⟩ ⟨#[53, 48]⟩ := by rw [hX1, ← hE1]; exact PairAt.made _ _ _ _
  replace hb : Below w.heap.size w X1 := by rw [hX1]; exact hb.alloc hb.size _
  go_upto_region 4 with fail
  rw [← hX1]
  try rw [hE1]
  clear hX1 hE1
  go_wp2_with fail
  refine (aExample _).mono ?_
  rintro _ w7 ⟨b4, rfl, hr, hB⟩
  replace hb := hb.trans (hB.mono hb.size)
  replace hA := hA.below hB
  clear hB
  go_wp2_with fail
  refine (P2.out w7 _ (HG.out.below hb) hr).mono ?_
  rintro _ w8 ⟨rfl, hB⟩
  replace hb := hb.trans (hB.mono hb.size)
  replace hA := hA.below hB
  clear hB hr
  obtain ⟨E2, hE2⟩ : ∃ s, w8.heap.size = s := ⟨_, rfl⟩
  obtain ⟨X2, hX2⟩ : ∃ V, V = w8.alloc (.cells #[.string ⟨#[]⟩, .string ⟨#[]⟩] 35) := ⟨_, rfl⟩
  have hC : PairAt X2 E2 35 ⟨#[]⟩ ⟨#[]⟩ := by rw [hX2, ← hE2]; exact PairAt.made _ _ _ _
  replace hA : PairAt X2 E1 35 ⟨#[85, 83, 68]⟩ ⟨#[53, 48]⟩ := by rw [hX2]; exact hA.alloc _
  replace hb : Below w.heap.size w X2 := by rw [hX2]; exact hb.alloc hb.size _
  go_upto_region 5 with fail
  rw [← hX2]
  try rw [hE2]
  clear hX2 hE2
  obtain ⟨E3, hE3⟩ : ∃ s, s = X2.heap.size := ⟨_, rfl⟩
  obtain ⟨X3, hX3⟩ : ∃ V, V = X2.alloc (.cells #[.string sEUR, .string ⟨#[53]⟩, .string sUSD, .string ⟨#[45, 51]⟩] 35) := ⟨_, rfl⟩
  obtain ⟨E4, hE4⟩ : ∃ s, s = X3.heap.size := ⟨_, rfl⟩
  obtain ⟨X4, hX4⟩ : ∃ V, V = X3.alloc (.cells #[.string sJPY, .string ⟨#[55]⟩, .string sUSD, .string ⟨#[51]⟩] 35) := ⟨_, rfl⟩
  have hra : Rf X4 (some ⟨E3, 0, none⟩) 2 (two2 sEUR sUSD) (two2 ⟨#[53]⟩ ⟨#[45, 51]⟩) := by rw [hX4]; exact Rc.alloc (by rw [hX3, hE3]; exact Rf.two _ _ _ _ _ _) _
  have hrb : Rf X4 (some ⟨E4, 0, none⟩) 2 (two2 sJPY sUSD) (two2 ⟨#[55]⟩ ⟨#[51]⟩) := by rw [hX4, hE4]; exact Rf.two _ _ _ _ _ _
  replace hb : Below w.heap.size w X4 := by
    rw [hX4, hX3]
    exact (hb.alloc hb.size _).alloc (by rw [World.size_alloc]; have := hb.size; omega) _
  replace hA : PairAt X4 E1 35 ⟨#[85, 83, 68]⟩ ⟨#[53, 48]⟩ := by rw [hX4, hX3]; exact (hA.alloc _).alloc _
  replace hC : PairAt X4 E2 35 ⟨#[]⟩ ⟨#[]⟩ := by rw [hX4, hX3]; exact (hC.alloc _).alloc _
  unfold sEUR sUSD at hX3
  unfold sJPY sUSD at hX4
  have hE : X2.heap.size + 1 = E4 := by rw [hE4, hX3, World.size_alloc]
  clear hE4
  go_wp2_with fail
  rw [← hX3, ← hX4, ← hE3]
  clear hX3 hX4 hE hE3
  refine Calls.mono (S1.out X4 _ _ (HG.out.below hb) hra hrb) ?_
  rintro _ w9 ⟨za, cz, rfl, hs, hB⟩
  replace hb := hb.trans (hB.mono hb.size)
  replace hA := hA.below hB
  replace hC := hC.below hB
  clear hB hra hrb T1 T2 P1 P2 S1
  obtain ⟨a0, a1, _, _⟩ := hA.cells
  obtain ⟨c0, c1, _, _⟩ := hC.cells
  have g1 := fun X Y W => money_guarde X Y ⟨#[]⟩ ⟨#[]⟩ ⟨#[]⟩ ⟨#[]⟩ W
  have g2 := money_same ⟨#[]⟩ ⟨#[]⟩
  have g3 := fun X Y W => money_guarde X Y ⟨#[85, 83, 68]⟩ ⟨#[53, 48]⟩ ⟨#[85, 83, 68]⟩ ⟨#[53, 48]⟩ W
  have g4 := money_same ⟨#[85, 83, 68]⟩ ⟨#[53, 48]⟩
  have hl : List.length [(sEUR, (5 : Int)), (sJPY, 7)] = 2 := rfl
  rw [hl] at EQ ⊢
  have HS := Lib.hid hs
  have HB := Lib.hid hb
  have HEL := Lib.hid (fun (W : World) => (by
    have h := Rf.two W ⟨#[69, 85, 82]⟩ ⟨#[74, 80, 89]⟩ ⟨#[53]⟩ ⟨#[55]⟩ 35
    show Rf _ _ 2 _ _
    refine Rc.congr h fun i hi => ?_
    rcases (show i = 0 ∨ i = 1 ∨ i = 2 ∨ i = 3 by omega) with rfl | rfl | rfl | rfl <;> exact congrArg Value.string (by decide +kernel) : RB (W.alloc (.cells #[.string ⟨#[69, 85, 82]⟩, .string ⟨#[53]⟩, .string ⟨#[74, 80, 89]⟩, .string ⟨#[55]⟩] 35)) (some ⟨W.heap.size, 0, none⟩) [(sEUR, 5), (sJPY, 7)]))
  clear hs hb hA hC hl
  go_wp2_with fail
  refine (EQ.out _ _ _ _ _ (Rc.alloc HS.out _) (HEL.out w9)).mono ?_
  rintro _ w10 ⟨rfl, hB⟩
  go_wp2_with fail
  go_ret
  exact ⟨rfl, (HB.out.alloc HB.out.size _).trans (hB.mono (by rw [World.size_alloc]; have := HB.out.size; omega))⟩

theorem money_all : MoneyAll := ⟨⟨mawake, p_sum, p_neg, p_chk⟩, p_put, p_amt⟩

end Go.Proofs.YtahnkmkmoalbhaaGreatDoor

/- Layer 5: the law MoneyTables over contracts of Find and CheckTable. -/
namespace Go.Proofs.YtahnkmkmoalbhaaGreatDoor
open Go.RowKit

theorem TwoAt.lt6 {w : World} {b : Nat} {t : TypeId} {x y : Value} (h : TwoAt w b t x y) : b < w.heap.size := by
  unfold TwoAt at h
  rcases Nat.lt_or_ge b w.heap.size with h' | h'
  · exact h'
  · rw [Array.getElem?_eq_none h'] at h; simp at h
theorem TwoAt.below6 {w w' : World} {b : Nat} {t : TypeId} {x y : Value} (h : TwoAt w b t x y) (hb : Below w.heap.size w w') : TwoAt w' b t x y := by
  have hl := h.lt6
  unfold TwoAt at *; rw [hb.block b hl]; exact h
theorem cur_guard (x y : Operand) (a c : ByteArray) (p q : Int) (W : World) : (eqGuard .eql 26 x y (.agg #[.string a, .int .i64 p]) (.agg #[.string c, .int .i64 q])).run Tryz.prog W = .ok () W :=
  run_eqGuard_agg W .eql _ x y _ _ (by kernel_rfl)
theorem cur_equal (a : ByteArray) (p : Int) (W : World) : (Op.equalIn 10000 26 (.agg #[.string a, .int .i64 p]) (.agg #[.string a, .int .i64 p])).run Tryz.prog W = .ok true W := by
  rw [run_equalIn_agg W 9999 26 _ _ (by kernel_rfl) (by kernel_rfl)]
  have hf : (Tryz.prog.fieldsOf 26).toList = [⟨"Code", 9, 0, false, "", "", 0⟩, ⟨"Places", 3, 1, false, "", "", 16⟩] := by kernel_rfl
  rw [hf]
  simp [Op.eqFields, go_sem]
theorem cur_same (a : ByteArray) (p : Int) (W : World) : (binOp .eql 26 (.agg #[.string a, .int .i64 p]) (.agg #[.string a, .int .i64 p])).run Tryz.prog W = .ok (.bool true) W := by
  rw [run_eql_struct, cur_equal]; rfl

set_option maxRecDepth 100000 in
set_option maxHeartbeats 16000000 in
theorem amt_great (haw : ∀ W, Ground W → Calls Tryz.prog 13 #[] W fun e w' => e = .returned (.bool true) ∧ Below W.heap.size W w') (xa : Option Addr) (n ca : Nat) (c : Nat → ByteArray) (p : Nat → Int) (x : ByteArray) (w : World) (hG : Ground w) (hx : Rt w xa n c p) (hn : n ≤ 9223372036854775807) (hg : greatTb n c = true) :
    Calls Tryz.prog 3 #[.slice xa n (n + ca), .string x] w fun e w' => e = .returned (.bool true) ∧ Below w.heap.size w w' := by
  have HGT := Lib.hid (rGreatTab w xa n (n + ca) c p hx hn)
  rw [hg] at HGT
  have HAW := Lib.hid haw
  have HG := Lib.hid hG
  have hb := Below.refl w.heap.size w
  clear hx hg haw hG hn
  go_enter Tryz.func3, Tryz.ntmps3
  go_wp2_with fail
  refine HGT.out.mono ?_
  rintro _ _ ⟨rfl, rfl⟩
  go_wp2_with fail
  refine (HAW.out _ (HG.out.below hb)).mono ?_
  rintro _ w2 ⟨rfl, hB⟩
  go_wp2_with fail
  go_ret
  exact ⟨rfl, hb.trans (hB.mono hb.size)⟩

set_option maxRecDepth 100000 in
set_option maxHeartbeats 16000000 in
theorem amt_long (haw : ∀ W, Ground W → Calls Tryz.prog 13 #[] W fun e w' => e = .returned (.bool true) ∧ Below W.heap.size W w') (xa : Option Addr) (n ca : Nat) (c : Nat → ByteArray) (p : Nat → Int) (x : ByteArray) (w : World) (hG : Ground w) (hx : Rt w xa n c p) (hn : n ≤ 9223372036854775807) (hg : greatTb n c = false) (h8 : 8 < x.size) :
    Calls Tryz.prog 3 #[.slice xa n (n + ca), .string x] w fun e w' => e = .returned (.bool true) ∧ Below w.heap.size w w' := by
  have HGT := Lib.hid (rGreatTab w xa n (n + ca) c p hx hn)
  rw [hg] at HGT
  have HAW := Lib.hid haw
  have HG := Lib.hid hG
  have hi : (8 : Int) < (x.size : Int) := by omega
  have hb := Below.refl w.heap.size w
  clear hx hg haw hG hn h8
  go_enter Tryz.func3, Tryz.ntmps3
  go_wp2_with fail
  refine HGT.out.mono ?_
  rintro _ _ ⟨rfl, rfl⟩
  go_wp2_with fail
  refine (HAW.out _ (HG.out.below hb)).mono ?_
  rintro _ w2 ⟨rfl, hB⟩
  go_wp2_with fail
  go_ret
  exact ⟨rfl, hb.trans (hB.mono hb.size)⟩

set_option maxRecDepth 100000 in
set_option maxHeartbeats 16000000 in
theorem amt_ok (haw : ∀ W, Ground W → Calls Tryz.prog 13 #[] W fun e w' => e = .returned (.bool true) ∧ Below W.heap.size W w') (xa : Option Addr) (n ca : Nat) (c : Nat → ByteArray) (p : Nat → Int) (x : ByteArray) (w : World) (hG : Ground w) (hx : Rt w xa n c p) (hfi : ∀ W xa cap, Ground W → Rt W xa n c p → Calls Tryz.prog 14 #[.slice xa n cap, .string x] W fun e w' => e = .returned (curV c p (curI n c x)) ∧ Below W.heap.size W w') (hta : ∀ W xa cap, Ground W → Rt W xa n c p → Calls Tryz.prog 16 #[.slice xa n (n + cap)] W fun e w' => e = .returned (.int .i64 (tabE n c p)) ∧ Below W.heap.size W w') (hn : n ≤ 9223372036854775807) (hg : greatTb n c = false) (h8 : x.size ≤ 8) :
    Calls Tryz.prog 3 #[.slice xa n (n + ca), .string x] w fun e w' => e = .returned (.bool true) ∧ Below w.heap.size w w' := by
  have HGT := Lib.hid (rGreatTab w xa n (n + ca) c p hx hn)
  rw [hg] at HGT
  have HAW := Lib.hid haw
  have HG := Lib.hid hG
  have hgf := greatTb_false hg
  have hft : FitT n c := ⟨by omega, fun i hi => by have := hgf.2 i hi; omega⟩
  have F1 := Lib.hid hfi
  have F2 := Lib.hid (fun W xa cap hr => rFind W xa n cap c p x hr hn)
  have T1 := Lib.hid hta
  have T2 := Lib.hid (fun W xa cap hr => rTab W xa n cap c p hr hft)
  have hcv : ∃ (cc : ByteArray) (pp : Int) (bb : Bool), curV c p (curI n c x) = .tuple #[.agg #[.string cc, .int .i64 pp], .bool bb] := by
    cases curI n c x with
    | none => exact ⟨_, _, _, rfl⟩
    | some i => exact ⟨_, _, _, rfl⟩
  obtain ⟨cc, pp, bb, hcv⟩ := hcv
  rw [hcv] at F1 F2
  obtain ⟨d, hd⟩ : ∃ d, tabE n c p = d := ⟨_, rfl⟩
  rw [hd] at T1 T2
  have HX := Lib.hid hx
  have hi : ¬ (8 : Int) < (x.size : Int) := by omega
  have hb := Below.refl w.heap.size w
  have hfg := fun X Y W => cur_guard X Y cc cc pp pp W
  have hfs := cur_same cc pp
  clear hx hg haw hG hn h8 hgf hft hcv hd hfi hta
  go_enter Tryz.func3, Tryz.ntmps3
  go_wp2_with fail
  refine HGT.out.mono ?_
  rintro _ _ ⟨rfl, rfl⟩
  go_wp2_with fail
  refine Calls.mono (F1.out _ _ _ (HG.out.below hb) (HX.out.belowAt hb (Nat.le_refl _))) ?_
  rintro _ w5 ⟨rfl, hB⟩
  replace hb := hb.trans (hB.mono hb.size)
  clear hB
  obtain ⟨S5, hS5⟩ : ∃ k, w5.heap.size = k := ⟨_, rfl⟩
  obtain ⟨V5, hV5⟩ : ∃ W, W = w5.alloc (.cells #[.string cc, .int .i64 pp] 26) := ⟨_, rfl⟩
  have hp5 : TwoAt V5 S5 26 (.string cc) (.int .i64 pp) := by rw [hV5, ← hS5]; exact TwoAt.made _ _ _ _
  replace hb : Below w.heap.size w V5 := by rw [hV5]; exact hb.alloc hb.size _
  go_upto_region 4 with fail
  rw [← hV5]
  try rw [hS5]
  clear hV5 hS5
  go_wp2_with fail
  refine Calls.mono (F2.out _ _ _ (HX.out.belowAt hb (Nat.le_refl _))) ?_
  rintro _ w6 ⟨rfl, hB⟩
  replace hb := hb.trans (hB.mono hb.size)
  replace hp5 := hp5.below6 hB
  clear hB
  obtain ⟨S6, hS6⟩ : ∃ k, w6.heap.size = k := ⟨_, rfl⟩
  obtain ⟨V6, hV6⟩ : ∃ W, W = w6.alloc (.cells #[.string cc, .int .i64 pp] 26) := ⟨_, rfl⟩
  have hp6 : TwoAt V6 S6 26 (.string cc) (.int .i64 pp) := by rw [hV6, ← hS6]; exact TwoAt.made _ _ _ _
  replace hb : Below w.heap.size w V6 := by rw [hV6]; exact hb.alloc hb.size _
  replace hp5 : TwoAt V6 S5 26 (.string cc) (.int .i64 pp) := by rw [hV6]; exact hp5.below6 ((Below.refl _ _).alloc (Nat.le_refl _) _)
  go_upto_region 5 with fail
  rw [← hV6]
  try rw [hS6]
  clear hV6 hS6
  go_wp2_with fail
  refine Calls.mono (T1.out _ _ _ (HG.out.below hb) (HX.out.belowAt hb (Nat.le_refl _))) ?_
  rintro _ _ ⟨rfl, hB⟩
  replace hb := hb.trans (hB.mono hb.size)
  replace hp5 := hp5.below6 hB
  replace hp6 := hp6.below6 hB
  clear hB
  go_wp2_with fail
  refine Calls.mono (T2.out _ _ _ (HX.out.belowAt hb (Nat.le_refl _))) ?_
  rintro _ _ ⟨rfl, q, rfl⟩
  replace hb := below_drewN hb q
  obtain ⟨q1, q2, _, _⟩ := (show TwoAt (World.drewN _ q) S5 26 (.string cc) (.int .i64 pp) from hp5).cells
  obtain ⟨q3, q4, _, _⟩ := (show TwoAt (World.drewN _ q) S6 26 (.string cc) (.int .i64 pp) from hp6).cells
  go_wp2_with fail
  refine (HAW.out _ (HG.out.below hb)).mono ?_
  rintro _ w2 ⟨rfl, hB⟩
  go_wp2_with fail
  go_ret
  exact ⟨rfl, hb.trans (hB.mono hb.size)⟩

end Go.Proofs.YtahnkmkmoalbhaaGreatDoor

/- Layer 5: the law MoneyTables: its ways joined. -/
namespace Go.Proofs.YtahnkmkmoalbhaaGreatDoor
open Go.RowKit

theorem amt_any (xa : Option Addr) (n ca : Nat) (c : Nat → ByteArray) (p : Nat → Int) (x : ByteArray) (w : World) (hG : Ground w) (hx : Rt w xa n c p) (hn : n ≤ 9223372036854775807) (hca : n ≤ ca) :
    Calls Tryz.prog 3 #[.slice xa n ca, .string x] w fun e w' => e = .returned (.bool true) ∧ Below w.heap.size w w' := by
  obtain ⟨ca, rfl⟩ : ∃ k, ca = n + k := ⟨ca - n, by omega⟩
  cases hg : greatTb n c with
  | true => exact amt_great mawake xa n ca c p x w hG hx hn hg
  | false =>
    by_cases h8 : x.size ≤ 8
    · have hgf := greatTb_false hg
      exact amt_ok mawake xa n ca c p x w hG hx (fun W xa cap _ hr => pFind W xa n cap c p x hr hn) (fun W xa cap _ hr => pTab W xa n (n + cap) (by omega) c p hr ⟨by omega, fun i hi => by have := hgf.2 i hi; omega⟩) hn hg h8
    · exact amt_long mawake xa n ca c p x w hG hx hn hg (by omega)

end Go.Proofs.YtahnkmkmoalbhaaGreatDoor
