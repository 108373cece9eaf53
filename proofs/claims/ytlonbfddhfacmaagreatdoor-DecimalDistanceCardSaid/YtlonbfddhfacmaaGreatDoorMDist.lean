/- the law DecimalDistance: the walk. -/
import Derived.Test.YtlonbfddhfacmaaGreatDoorMDn
import Derived.Test.YtlonbfddhfacmaaGreatDoorMDp
import Derived.Deep.RegionHeld3
import Derived.Deep.DeepCutAuto
import Derived.Laws.NewBlocks
import Derived.Deep.RegionWith
namespace Go.Proofs.YtlonbfddhfacmaaGreatDoor
open Go.RowKit Fra

theorem ddi_any (fn fd : ByteArray) (m : Int) (w : World) (hG : Ground w) :
    Calls Tryz.prog 6 #[.agg #[.string fn, .string fd], .int .i64 m] w fun e w' => e = .returned (.bool true) ∧ Below w.heap.size w w' := by
  by_cases hn : fn.size ≤ 60 ∧ fd.size ≤ 60
  · have hl := longF_false hn.1 hn.2
    by_cases h1 : m < 1
    · exact ddi_lo fn fd m w hG hn.1 hn.2 hl h1
    · by_cases h6 : 6 < m
      · exact ddi_hi fn fd m w hG hn.1 hn.2 hl h1 h6
      · by_cases hs : cmpP (subP (raw fn fd) (rnd m (raw fn fd), 1)) (0, 1) < 0
        · exact ddi_n fn fd m w hG hn.1 hn.2 hl (by omega) (by omega) hs
        · exact ddi_p fn fd m w hG hn.1 hn.2 hl (by omega) (by omega) hs
  · exact ddi_long fn fd m w hG (longF_true (by omega))

end Go.Proofs.YtlonbfddhfacmaaGreatDoor
