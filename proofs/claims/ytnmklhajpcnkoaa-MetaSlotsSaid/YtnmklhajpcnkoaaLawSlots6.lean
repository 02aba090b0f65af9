/-
  P601, P602: a meta counts only in its own slot; the order in which two stand does not make up for it: the walk of the statement MetaSlots.
-/
import Derived.Test.YtnmklhajpcnkoaaLawSlots6b
import Derived.Test.YtnmklhajpcnkoaaLawSlots6c
import Derived.Test.YtnmklhajpcnkoaaLawSlots6d
namespace Go.Proofs.Ytnmklhajpcnkoaa.P6
open Go Go.RowKit Go.Lib Go.Proofs.Ytnmklhajpcnkoaa.P0 Go.Proofs.Ytnmklhajpcnkoaa.P2 Go.Proofs.Ytnmklhajpcnkoaa.P5

theorem slots_walk (w : World) (m n : Mt) :
    Calls Try.prog 5 #[m.v, n.v] w fun r w' => r = .returned (.bool true) ∧ Below w.heap.size w w' := by
  by_cases hm : m.ok
  · by_cases hn : n.ok
    · by_cases h0 : m.tx % 2 = 0
      · by_cases h1 : n.tx % 2 = 0
        · exact slots_0_same w m n hm hn h0 h1
        · by_cases hg : n.tx < m.tx
          · exact slots_0_gt w m n hm hn h0 (by omega) hg
          · exact slots_0_lt w m n hm hn h0 (by omega) (by omega)
      · by_cases h1 : n.tx % 2 = 0
        · by_cases hg : n.tx < m.tx
          · exact slots_1_gt w m n hm hn (by omega) h1 hg
          · exact slots_1_lt w m n hm hn (by omega) h1 (by omega)
        · exact slots_1_same w m n hm hn (by omega) (by omega)
    · exact slots_nbad w m n hm hn
  · exact slots_mbad w m n hm

end Go.Proofs.Ytnmklhajpcnkoaa.P6
