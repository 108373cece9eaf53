/- Layer 6, the laws of P6.1: DateParts, DateShifts, DateTexts: the walks. -/
import Derived.Test.YtgpjadlnfofppaaDoorYla
import Derived.Test.YtgpjadlnfofppaaDoorYre
namespace Go.Proofs.YtgpjadlnfofppaaDoor
open Go.RowKit Dat

set_option maxRecDepth 100000 in
set_option maxHeartbeats 16000000 in
theorem ldp_any (y m t d : Int) (w : World) (hG : Ground w) : Calls Tryd.prog 3 #[.int .i64 y, .int .i64 m, .int .i64 t, .int .i64 d] w fun e w' => e = .returned (.bool true) ∧ Below w.heap.size w w' := by
  obtain ⟨a, e, h1⟩ : ∃ a e, ofR y m t = (a, e) := ⟨_, _, rfl⟩
  obtain ⟨q1, q2, q3, q4, h2⟩ : ∃ q1 q2 q3 q4, partsR d = (q1, q2, q3, q4) := ⟨_, _, _, _, rfl⟩
  obtain ⟨x, i, h3⟩ : ∃ x i, wdR d = (x, i) := ⟨_, _, rfl⟩
  obtain ⟨l, r, h4⟩ : ∃ l r, lastR d = (l, r) := ⟨_, _, rfl⟩
  obtain ⟨lp, h5⟩ : ∃ lp, lpB y = lp := ⟨_, rfl⟩
  have H1 := Lib.hid (fun w (hG : Ground w) => pOf y m t a e w hG h1)
  have R1 := Lib.hid (fun w => rOf y m t a e w h1)
  have H2 := Lib.hid (fun w (hG : Ground w) => pParts d q1 q2 q3 q4 w hG h2)
  have R2 := Lib.hid (fun w => rParts d q1 q2 q3 q4 w h2)
  have H3 := Lib.hid (fun w (hG : Ground w) => pWd d x i w hG h3)
  have R3 := Lib.hid (fun w => rWd d x i w h3)
  have H4 := Lib.hid (fun w (hG : Ground w) => pLast d l r w hG h4)
  have R4 := Lib.hid (fun w => rLast d l r w h4)
  have H5 := Lib.hid (fun w => pLeap y w)
  have R5 := Lib.hid (fun w => rLeap y w)
  rw [h5] at H5 R5
  have HA := Lib.hid (fun w (hG : Ground w) => awake_any w hG)
  have HG := Lib.hid hG
  clear hG h1 h2 h3 h4 h5
  go_enter Tryd.func3, Tryd.ntmps3
  go_wp2_with fail
  refine (H1.out _ HG.out).mono ?_
  rintro _ _ ⟨rfl, rfl⟩
  go_wp2_with fail
  refine (R1.out _).mono ?_
  rintro _ _ ⟨rfl, rfl⟩
  go_wp2_with fail
  refine (H2.out _ HG.out).mono ?_
  rintro _ _ ⟨rfl, rfl⟩
  go_wp2_with fail
  refine (R2.out _).mono ?_
  rintro _ _ ⟨rfl, rfl⟩
  go_wp2_with fail
  refine (H3.out _ HG.out).mono ?_
  rintro _ _ ⟨rfl, rfl⟩
  go_wp2_with fail
  refine (R3.out _).mono ?_
  rintro _ _ ⟨rfl, rfl⟩
  go_wp2_with fail
  refine (H4.out _ HG.out).mono ?_
  rintro _ _ ⟨rfl, rfl⟩
  go_wp2_with fail
  refine (R4.out _).mono ?_
  rintro _ _ ⟨rfl, rfl⟩
  go_wp2_with fail
  refine (H5.out _).mono ?_
  rintro _ _ ⟨rfl, rfl⟩
  go_wp2_with fail
  refine (R5.out _).mono ?_
  rintro _ _ ⟨rfl, rfl⟩
  go_wp2_with fail
  refine (HA.out _ HG.out).mono ?_
  rintro _ w1 ⟨rfl, hB1⟩
  have HG1 := Lib.hid (HG.out.below hB1)
  have HB1 := Lib.hid hB1
  clear hB1
  go_wp2_with fail
  go_ret
  exact ⟨rfl, HB1.out⟩

set_option maxRecDepth 100000 in
set_option maxHeartbeats 16000000 in
theorem lds_any (a b n : Int) (w : World) (hG : Ground w) : Calls Tryd.prog 4 #[.int .i64 a, .int .i64 b, .int .i64 n] w fun e w' => e = .returned (.bool true) ∧ Below w.heap.size w w' := by
  obtain ⟨c, e, h1⟩ : ∃ c e, addR a n = (c, e) := ⟨_, _, rfl⟩
  obtain ⟨m, g, h2⟩ : ∃ m g, monR a b = (m, g) := ⟨_, _, rfl⟩
  have H1 := Lib.hid (fun w (hG : Ground w) => pAdd a n c e w hG h1)
  have R1 := Lib.hid (fun w => rAdd a n c e w h1)
  have H2 := Lib.hid (fun w (hG : Ground w) => pMon a b m g w hG h2)
  have R2 := Lib.hid (fun w => rMon a b m g w h2)
  have HA := Lib.hid (fun w (hG : Ground w) => awake_any w hG)
  have HG := Lib.hid hG
  clear hG h1 h2
  go_enter Tryd.func4, Tryd.ntmps4
  go_wp2_with fail
  refine (H1.out _ HG.out).mono ?_
  rintro _ _ ⟨rfl, rfl⟩
  go_wp2_with fail
  refine (R1.out _).mono ?_
  rintro _ _ ⟨rfl, rfl⟩
  go_wp2_with fail
  refine (H2.out _ HG.out).mono ?_
  rintro _ _ ⟨rfl, rfl⟩
  go_wp2_with fail
  refine (R2.out _).mono ?_
  rintro _ _ ⟨rfl, rfl⟩
  go_wp2_with fail
  refine (HA.out _ HG.out).mono ?_
  rintro _ w2 ⟨rfl, hB2⟩
  have HG2 := Lib.hid (HG.out.below hB2)
  have HB2 := Lib.hid hB2
  clear hB2
  go_wp2_with fail
  go_ret
  exact ⟨rfl, HB2.out⟩

set_option maxRecDepth 100000 in
set_option maxHeartbeats 16000000 in
theorem ldt_any (d : Int) (s : ByteArray) (w : World) (hG : Ground w) : Calls Tryd.prog 5 #[.int .i64 d, .string s] w fun e w' => e = .returned (.bool true) ∧ Below w.heap.size w w' := by
  have HA := Lib.hid (fun w (hG : Ground w) => awake_any w hG)
  have HG := Lib.hid hG
  by_cases hs : 100 < s.size
  · have hs' : (100 : Int) < (s.size : Int) := by omega
    clear hG
    go_enter Tryd.func5, Tryd.ntmps5
    go_wp2_with fail
    refine (HA.out _ HG.out).mono ?_
    rintro _ w3 ⟨rfl, hB3⟩
    have HG3 := Lib.hid (HG.out.below hB3)
    have HB3 := Lib.hid hB3
    clear hB3
    go_wp2_with fail
    go_ret
    exact ⟨rfl, HB3.out⟩
  · have hs' : ¬ (100 : Int) < (s.size : Int) := by omega
    obtain ⟨t, e, h1⟩ : ∃ t e, printR d = (t, e) := ⟨_, _, rfl⟩
    obtain ⟨x, g, h2⟩ : ∃ x g, parseR s = (x, g) := ⟨_, _, rfl⟩
    have H1 := Lib.hid (fun w (hG : Ground w) => pPrint d t e w hG h1)
    have R1 := Lib.hid (fun w => rPrint d t e w h1)
    have H2 := Lib.hid (fun w (hG : Ground w) => pParse s x g w hG h2)
    have R2 := Lib.hid (fun w => rParse s x g w h2)
    clear hG h1 h2
    go_enter Tryd.func5, Tryd.ntmps5
    go_wp2_with fail
    refine (H1.out _ HG.out).mono ?_
    rintro _ w4 ⟨rfl, hB4⟩
    have HG4 := Lib.hid (HG.out.below hB4)
    have HB4 := Lib.hid hB4
    clear hB4
    go_wp2_with fail
    refine (R1.out _).mono ?_
    rintro _ w5 ⟨rfl, hB5⟩
    have HG5 := Lib.hid (HG4.out.below hB5)
    have HB5 := Lib.hid (HB4.out.trans (hB5.mono HB4.out.size))
    clear hB5
    go_wp2_with fail
    refine (H2.out _ HG5.out).mono ?_
    rintro _ w6 ⟨rfl, hB6⟩
    have HG6 := Lib.hid (HG5.out.below hB6)
    have HB6 := Lib.hid (HB5.out.trans (hB6.mono HB5.out.size))
    clear hB6
    go_wp2_with fail
    refine (R2.out _).mono ?_
    rintro _ w7 ⟨rfl, hB7⟩
    have HG7 := Lib.hid (HG6.out.below hB7)
    have HB7 := Lib.hid (HB6.out.trans (hB7.mono HB6.out.size))
    clear hB7
    go_wp2_with fail
    refine (HA.out _ HG7.out).mono ?_
    rintro _ w8 ⟨rfl, hB8⟩
    have HG8 := Lib.hid (HG7.out.below hB8)
    have HB8 := Lib.hid (HB7.out.trans (hB8.mono HB7.out.size))
    clear hB8
    go_wp2_with fail
    go_ret
    exact ⟨rfl, HB8.out⟩

end Go.Proofs.YtgpjadlnfofppaaDoor
