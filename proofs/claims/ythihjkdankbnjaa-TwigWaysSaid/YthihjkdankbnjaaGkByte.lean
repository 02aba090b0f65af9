/-
  Package pack: Get.Byte.
-/
import Derived.Test.YthihjkdankbnjaaGk0
namespace Go.Proofs.Ythihjkdankbnjaa.PP
open Go Go.RowKit Go.Lib Go.Proofs.Ythihjkdankbnjaa.P0

theorem getByte_any (w : World) (b : Nat) (s : ByteArray) (bad : Int) (h : GetAt w b s bad) :
    Calls Try.prog 22 #[.pointer (some ⟨b, 0, none⟩)] w fun r w' => r = .returned (.int .i64 (getNum 1 s bad).1) ∧ GetAt w' b (getNum 1 s bad).2.1 (getNum 1 s bad).2.2 ∧ Fr b w w' := by
  have H := Lib.hid (getNumber_any w b s bad 1 (by omega) h)
  clear h
  go_enter Try.func22, Try.ntmps22
  go_wp2_with (go_at_call 32; refine H.out.mono ?_; rintro e w' ⟨rfl, h1, h2⟩)
  go_ret
  exact ⟨rfl, h1, h2⟩

end Go.Proofs.Ythihjkdankbnjaa.PP
