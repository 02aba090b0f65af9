/-
  Package pack: Get.Half.
-/
import Derived.Test.YtpbaodjmkdcihaaGk0
namespace Go.Proofs.Ytpbaodjmkdcihaa.PP
open Go Go.RowKit Go.Lib Go.Proofs.Ytpbaodjmkdcihaa.P0

theorem getHalf_any (w : World) (b : Nat) (s : ByteArray) (bad : Int) (h : GetAt w b s bad) :
    Calls Try.prog 25 #[.pointer (some ⟨b, 0, none⟩)] w fun r w' => r = .returned (.int .i64 (getNum 2 s bad).1) ∧ GetAt w' b (getNum 2 s bad).2.1 (getNum 2 s bad).2.2 ∧ Fr b w w' := by
  have H := Lib.hid (getNumber_any w b s bad 2 (by omega) h)
  clear h
  go_enter Try.func25, Try.ntmps25
  go_wp2_with (go_at_call 34; refine H.out.mono ?_; rintro e w' ⟨rfl, h1, h2⟩)
  go_ret
  exact ⟨rfl, h1, h2⟩

end Go.Proofs.Ytpbaodjmkdcihaa.PP
