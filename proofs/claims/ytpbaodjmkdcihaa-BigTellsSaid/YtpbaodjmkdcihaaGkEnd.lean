/-
  Package pack: Get.End.
-/
import Derived.Test.YtpbaodjmkdcihaaGkLeft
namespace Go.Proofs.Ytpbaodjmkdcihaa.PP
open Go Go.RowKit Go.Lib Go.Proofs.Ytpbaodjmkdcihaa.P0

theorem getEnd_any (w : World) (b : Nat) (s : ByteArray) (bad : Int) (h : GetAt w b s bad) :
    Calls Try.prog 26 #[.pointer (some ⟨b, 0, none⟩)] w fun r w' => r = .returned (.int .i64 (getFin s bad)) ∧ Fr b w w' := by
  unfold getFin
  have H1 := Lib.hid (getLeft_any w b s bad h)
  by_cases hs : 0 < s.size
  · rw [if_pos hs]
    have k : decide ((0 : Int) < (s.size : Int)) = true := by simpa using hs
    have k2 : decide (0 < s.size) = true := by simpa using hs
    have H2 := Lib.hid (getFail_any w b s bad 6 h)
    clear h hs
    go_enter Try.func26, Try.ntmps26
    go_wp2_with (first | (go_at_call 35; refine H1.out.mono ?_; rintro e w' ⟨rfl, rfl⟩) | (go_at_call 36; refine H2.out.mono ?_; rintro e w2 ⟨rfl, h3, h4⟩) | (go_at_call 37; refine (getBad_any _ b _ 6 h3).mono ?_; rintro e w3 ⟨rfl, rfl⟩))
    go_ret
    exact ⟨rfl, h4⟩
  · rw [if_neg hs]
    have k : decide ((0 : Int) < (s.size : Int)) = false := decide_eq_false (by omega)
    have k2 : decide (0 < s.size) = false := decide_eq_false hs
    have H2 := Lib.hid (getBad_any w b s bad h)
    clear h hs
    go_enter Try.func26, Try.ntmps26
    go_wp2_with (first | (go_at_call 35; refine H1.out.mono ?_; rintro e w' ⟨rfl, rfl⟩) | (go_at_call 37; refine H2.out.mono ?_; rintro e w3 ⟨rfl, rfl⟩))
    go_ret
    exact ⟨rfl, Fr.refl _ _⟩

end Go.Proofs.Ytpbaodjmkdcihaa.PP
