/-
  Package pack: Put.Half.
-/
import Derived.Test.YtpbaodjmkdcihaaPk0
namespace Go.Proofs.Ytpbaodjmkdcihaa.PP
open Go Go.RowKit Go.Lib Go.Proofs.Ytpbaodjmkdcihaa.P0

theorem putHalf_any (w : World) (b : Nat) (xs : List UInt8) (v bad : Int) (hv : v < 9223372036854775808) (hx : xs.length ≤ 140737488355000) (h : PutIs w b xs bad) :
    Calls Try.prog 21 #[.pointer (some ⟨b, 0, none⟩), .int .i64 v] w fun r w' => r = .returned (.pointer (some ⟨b, 0, none⟩)) ∧ PutIs w' b (stepN 2 v xs bad).1 (stepN 2 v xs bad).2 ∧ Fr b w w' := by
  have H := narrow_2 w b xs v bad hv hx h
  clear hv
  go_enter Try.func21, Try.ntmps21
  go_wp2_with (go_at_call 33; refine H.mono ?_; rintro e w' ⟨rfl, h1, h2⟩)
  go_ret
  exact ⟨rfl, h1, h2⟩


end Go.Proofs.Ytpbaodjmkdcihaa.PP
