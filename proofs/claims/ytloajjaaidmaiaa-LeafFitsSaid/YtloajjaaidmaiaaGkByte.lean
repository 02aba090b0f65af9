/-
  Package pack: Get.Byte.
-/
import Derived.Test.YtloajjaaidmaiaaGk0
namespace Go.Proofs.Ytloajjaaidmaiaa.PP
open Go Go.RowKit Go.Lib Go.Proofs.Ytloajjaaidmaiaa.P0

theorem getByte_any (w : World) (b : Nat) (s : ByteArray) (bad : Int) (h : GetAt w b s bad) :
    Calls Try.prog 32 #[.pointer (some ⟨b, 0, none⟩)] w fun r w' => r = .returned (.int .i64 (getNum 1 s bad).1) ∧ GetAt w' b (getNum 1 s bad).2.1 (getNum 1 s bad).2.2 ∧ Fr b w w' := by
  have H := Lib.hid (getNumber_any w b s bad 1 (by omega) h)
  clear h
  go_enter Try.func32, Try.ntmps32
  go_wp2_with (go_at_call 43; refine H.out.mono ?_; rintro e w' ⟨rfl, h1, h2⟩)
  go_ret
  exact ⟨rfl, h1, h2⟩

end Go.Proofs.Ytloajjaaidmaiaa.PP
