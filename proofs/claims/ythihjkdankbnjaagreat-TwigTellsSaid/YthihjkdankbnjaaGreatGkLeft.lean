/-
  Package pack: Get.Left.
-/
import Derived.Test.YthihjkdankbnjaaGreatGk0
namespace Go.Proofs.YthihjkdankbnjaaGreat.PP
open Go Go.RowKit Go.Lib Go.Proofs.YthihjkdankbnjaaGreat.P0

theorem getLeft_any (w : World) (b : Nat) (s : ByteArray) (bad : Int) (h : GetAt w b s bad) :
    Calls Tryz.prog 84 #[.pointer (some ⟨b, 0, none⟩)] w fun r w' => r = .returned (.int .i64 s.size) ∧ w = w' := by
  have c0 := h.c0
  clear h
  go_enter Tryz.func84, Tryz.ntmps84
  go_wp2
  go_ret
  exact ⟨rfl, rfl⟩
theorem getLeft_nil (w : World) :
    Calls Tryz.prog 84 #[.pointer none] w fun r w' => r = .returned (.int .i64 0) ∧ w = w' := by
  go_enter Tryz.func84, Tryz.ntmps84
  go_wp2
  go_ret
  exact ⟨rfl, rfl⟩


end Go.Proofs.YthihjkdankbnjaaGreat.PP
