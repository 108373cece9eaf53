/- the law IntegerReads: the walk. -/
import Derived.Test.YtaopneanfflbcaaDoorLaw
import Derived.Test.YtaopneanfflbcaaDoorRefB
namespace Go.Proofs.YtaopneanfflbcaaDoor
open Go.RowKit

set_option maxRecDepth 100000 in
set_option maxHeartbeats 4000000 in
theorem reads_any (s : ByteArray) (w : World) (hG : Ground w) :
    Calls Tryd.prog 5 #[.string s] w fun e w' => e = .returned (.bool true) ∧ Below w.heap.size w w' := by
  have hB : Below w.heap.size w w := Below.refl _ _
  by_cases h1 : 80 < s.size
  · by_cases h2 : s.size ≤ 65536
    · go_enter Tryd.func5, Tryd.ntmps5
      go_wp2_with fail
      refine (awake_any w (hG.below hB)).mono ?_
      rintro e w1 ⟨rfl, h⟩
      replace hB := hB.trans (h.mono hB.size)
      clear h
      go_wp2_with fail
      go_ret
      exact ⟨rfl, hB⟩
    · have h3 : 65536 < s.size := by omega
      go_enter Tryd.func5, Tryd.ntmps5
      go_wp2_with fail
      refine (parse_long s w h3).mono ?_
      rintro e _ ⟨rfl, rfl⟩
      go_wp2_with fail
      refine (rParse_long s w h3).mono ?_
      rintro e _ ⟨rfl, rfl⟩
      go_wp2_with fail
      refine (awake_any w (hG.below hB)).mono ?_
      rintro e w1 ⟨rfl, h⟩
      replace hB := hB.trans (h.mono hB.size)
      clear h
      go_wp2_with fail
      go_ret
      exact ⟨rfl, hB⟩
  · have h2 : s.size ≤ 65536 := by omega
    cases ht : isText s
    · go_enter Tryd.func5, Tryd.ntmps5
      go_wp2_with fail
      refine (parse_bad s w h2 ht).mono ?_
      rintro e _ ⟨rfl, rfl⟩
      go_wp2_with fail
      refine (rParse_bad s w h2 ht).mono ?_
      rintro e _ ⟨rfl, rfl⟩
      go_wp2_with fail
      refine (awake_any w (hG.below hB)).mono ?_
      rintro e w1 ⟨rfl, h⟩
      replace hB := hB.trans (h.mono hB.size)
      clear h
      go_wp2_with fail
      go_ret
      exact ⟨rfl, hB⟩
    · go_enter Tryd.func5, Tryd.ntmps5
      go_wp2_with fail
      refine (parse_ok s w h2 ht).mono ?_
      rintro e _ ⟨rfl, rfl⟩
      go_wp2_with fail
      refine (rParse_ok s w h2 ht).mono ?_
      rintro e _ ⟨rfl, rfl⟩
      go_wp2_with fail
      refine (awake_any w (hG.below hB)).mono ?_
      rintro e w1 ⟨rfl, h⟩
      replace hB := hB.trans (h.mono hB.size)
      clear h
      go_wp2_with fail
      go_ret
      exact ⟨rfl, hB⟩

end Go.Proofs.YtaopneanfflbcaaDoor
