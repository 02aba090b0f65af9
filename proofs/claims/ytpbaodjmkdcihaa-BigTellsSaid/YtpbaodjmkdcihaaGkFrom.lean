/-
  Package pack: Get.From.
-/
import Derived.Test.YtpbaodjmkdcihaaGk0
namespace Go.Proofs.Ytpbaodjmkdcihaa.PP
open Go Go.RowKit Go.Lib Go.Proofs.Ytpbaodjmkdcihaa.P0

theorem getFrom_any (w : World) (s : ByteArray) :
    Calls Try.prog 24 #[.string s] w fun r w' => r = .returned (.pointer (some ⟨w.heap.size, 0, none⟩)) ∧ GetAt w' w.heap.size s 0 ∧ Below w.heap.size w w' ∧ w'.heap.size = w.heap.size + 1 := by
  have h : GetAt (w.alloc (.cells #[.string s, .int .i64 0] 70)) w.heap.size s 0 := new_at w _ _
  have hB : Below w.heap.size w (w.alloc (.cells #[.string s, .int .i64 0] 70)) := (Below.refl _ w).alloc (Nat.le_refl _) _
  have hz : (w.alloc (.cells #[.string s, .int .i64 0] 70)).heap.size = w.heap.size + 1 := by simp
  have H := Lib.hid (And.intro h (And.intro hB hz))
  clear h hB hz
  go_enter Try.func24, Try.ntmps24
  go_wp2
  go_ret
  exact ⟨rfl, H.out⟩


end Go.Proofs.Ytpbaodjmkdcihaa.PP
