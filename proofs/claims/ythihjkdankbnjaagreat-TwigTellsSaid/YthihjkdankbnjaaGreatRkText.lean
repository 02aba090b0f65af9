/-
  The reference's Get.Text.
-/
import Derived.Test.YthihjkdankbnjaaGreatRk0
namespace Go.Proofs.YthihjkdankbnjaaGreat.PP
open Go Go.RowKit Go.Lib Go.Proofs.YthihjkdankbnjaaGreat.P0

theorem rGetText_any (w : World) (b : Nat) (s : ByteArray) (e : Int) (h : RGetAt w b s e) :
    Calls Tryz.prog 37 #[.pointer (some ⟨b, 0, none⟩)] w fun r w' => r = .returned (.string (refTxt s e).1) ∧ RGetAt w' b (refTxt s e).2.1 (refTxt s e).2.2 ∧ Fr b w w' := by
  unfold refTxt
  have H := Lib.hid (rGetNum_any w b s e 2 (by omega) h)
  generalize refNum 2 s e = q at *
  clear h
  go_enter Tryz.func37, Tryz.ntmps37
  go_wp2_with (first | (go_at_call 36; refine H.out.mono ?_; rintro e w' ⟨rfl, h1, h2⟩) | (go_at_call 88; refine (rRaw_any _ b q.2.1 q.2.2 q.1 h1).mono ?_; rintro e w2 ⟨rfl, h3, h4⟩))
  go_ret
  exact ⟨rfl, h3, h2.trans h4⟩


end Go.Proofs.YthihjkdankbnjaaGreat.PP
