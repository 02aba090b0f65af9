/-
  The reference's Get.End.
-/
import Derived.Test.YthihjkdankbnjaaGreatRk0
namespace Go.Proofs.YthihjkdankbnjaaGreat.PP
open Go Go.RowKit Go.Lib Go.Proofs.YthihjkdankbnjaaGreat.P0

theorem rEnd_any (w : World) (b : Nat) (s : ByteArray) (e : Int) (h : RGetAt w b s e) :
    Calls Tryz.prog 38 #[.pointer (some ⟨b, 0, none⟩)] w fun r w' => r = .returned (.int .i64 (refFin s e)) ∧ Fr b w w' := by
  have c0 := h.c0
  have c1 := h.c1
  have f1 := h.f 1
  have g1 := (h.set1 6).c1
  have hB : Fr b w (w.setCell ⟨b, 1, none⟩ (.int .i64 6)) := (Fr.refl b w).setCell _ _
  unfold refFin
  clear h
  by_cases he : e = 0
  · subst he
    rw [if_pos rfl]
    by_cases hs : 0 < s.size
    · rw [if_pos hs]
      have k : decide ((0 : Int) < (s.size : Int)) = true := decide_eq_true (by omega)
      have k2 : decide (0 < s.size) = true := decide_eq_true hs
      clear hs
      go_enter Tryz.func38, Tryz.ntmps38
      go_wp2
      go_ret
      exact ⟨rfl, hB⟩
    · rw [if_neg hs]
      have k : decide ((0 : Int) < (s.size : Int)) = false := decide_eq_false (by omega)
      have k2 : decide (0 < s.size) = false := decide_eq_false hs
      clear hs
      go_enter Tryz.func38, Tryz.ntmps38
      go_wp2
      go_ret
      exact ⟨rfl, Fr.refl _ _⟩
  · rw [if_neg he]
    have k : (e == 0) = false := by simpa using he
    go_enter Tryz.func38, Tryz.ntmps38
    go_wp2
    go_ret
    exact ⟨rfl, Fr.refl _ _⟩


end Go.Proofs.YthihjkdankbnjaaGreat.PP
