/-
  Package pack: Get.Text.
-/
import Derived.Test.YthihjkdankbnjaaGreatGkHalf
namespace Go.Proofs.YthihjkdankbnjaaGreat.PP
open Go Go.RowKit Go.Lib Go.Proofs.YthihjkdankbnjaaGreat.P0

theorem getText_any (w : World) (b : Nat) (s : ByteArray) (bad : Int) (h : GetAt w b s bad) :
    Calls Tryz.prog 34 #[.pointer (some ⟨b, 0, none⟩)] w fun r w' => r = .returned (.string (getTxt s bad).1) ∧ GetAt w' b (getTxt s bad).2.1 (getTxt s bad).2.2 ∧ Fr b w w' := by
  unfold getTxt
  have H := Lib.hid (getHalf_any w b s bad h)
  generalize getNum 2 s bad = q at *
  clear h
  go_enter Tryz.func34, Tryz.ntmps34
  go_wp2_with (first | (go_at_call 32; refine H.out.mono ?_; rintro e w' ⟨rfl, h1, h2⟩) | (go_at_call 83; refine (getRaw_any _ b q.2.1 q.2.2 q.1 h1).mono ?_; rintro e w2 ⟨rfl, h3, h4⟩))
  go_ret
  exact ⟨rfl, h3, h2.trans h4⟩

end Go.Proofs.YthihjkdankbnjaaGreat.PP
