/-
  Package pack's Get, by contracts: Bad, Left, fail, Raw.
-/
import Derived.Test.YtadcmjcafimkeaaDoorPutD
namespace Go.Proofs.YtadcmjcafimkeaaDoor.P1
open Go Go.RowKit Go.Lib

/-- block b is a Get: what is left, its error -/
def GetAt (w : World) (b : Nat) (s : ByteArray) (bad : Int) : Prop := w.heap[b]? = some (.cells #[.string s, .int .i64 bad] 62 (0, 0))
theorem GetAt.c0 {w : World} {b : Nat} {s : ByteArray} {bad : Int} (h : GetAt w b s bad) : w.cell? ⟨b, 0, none⟩ = some (.string s) := by unfold GetAt at h; rw [cell_at h]; rfl
theorem GetAt.c1 {w : World} {b : Nat} {s : ByteArray} {bad : Int} (h : GetAt w b s bad) : w.cell? ⟨b, 1, none⟩ = some (.int .i64 bad) := by unfold GetAt at h; rw [cell_at h]; rfl
theorem GetAt.f {w : World} {b : Nat} {s : ByteArray} {bad : Int} (h : GetAt w b s bad) (j : Nat) : w.frozen? ⟨b, j, none⟩ = false := free_at h j
theorem GetAt.set0 {w : World} {b : Nat} {s : ByteArray} {bad : Int} (h : GetAt w b s bad) (t : ByteArray) : GetAt (w.setCell ⟨b, 0, none⟩ (.string t)) b t bad := by unfold GetAt at *; rw [set_at h]; rfl
theorem GetAt.set1 {w : World} {b : Nat} {s : ByteArray} {bad : Int} (h : GetAt w b s bad) (e : Int) : GetAt (w.setCell ⟨b, 1, none⟩ (.int .i64 e)) b s e := by unfold GetAt at *; rw [set_at h]; rfl
theorem GetAt.below {w w' : World} {b : Nat} {s : ByteArray} {bad : Int} (h : GetAt w b s bad) (hb : Below w.heap.size w w') : GetAt w' b s bad := by
  unfold GetAt at *; rw [hb.block b (lt_of_block h)]; exact h

theorem getBad_any (w : World) (b : Nat) (s : ByteArray) (bad : Int) (h : GetAt w b s bad) :
    Calls Tryd.prog 35 #[.pointer (some ⟨b, 0, none⟩)] w fun r w' => r = .returned (.int .i64 bad) ∧ w = w' := by
  have c1 := h.c1
  clear h
  go_enter Tryd.func35, Tryd.ntmps35
  go_wp2
  go_ret
  exact ⟨rfl, rfl⟩
theorem getBad_nil (w : World) :
    Calls Tryd.prog 35 #[.pointer none] w fun r w' => r = .returned (.int .i64 1) ∧ w = w' := by
  go_enter Tryd.func35, Tryd.ntmps35
  go_wp2
  go_ret
  exact ⟨rfl, rfl⟩
theorem getLeft_any (w : World) (b : Nat) (s : ByteArray) (bad : Int) (h : GetAt w b s bad) :
    Calls Tryd.prog 33 #[.pointer (some ⟨b, 0, none⟩)] w fun r w' => r = .returned (.int .i64 s.size) ∧ w = w' := by
  have c0 := h.c0
  clear h
  go_enter Tryd.func33, Tryd.ntmps33
  go_wp2
  go_ret
  exact ⟨rfl, rfl⟩
theorem getLeft_nil (w : World) :
    Calls Tryd.prog 33 #[.pointer none] w fun r w' => r = .returned (.int .i64 0) ∧ w = w' := by
  go_enter Tryd.func33, Tryd.ntmps33
  go_wp2
  go_ret
  exact ⟨rfl, rfl⟩

theorem getFail_any (w : World) (b : Nat) (s : ByteArray) (bad e : Int) (h : GetAt w b s bad) :
    Calls Tryd.prog 48 #[.pointer (some ⟨b, 0, none⟩), .int .i64 e] w fun r w' => r = .returned (.tuple #[]) ∧ GetAt w' b ⟨#[]⟩ e ∧ Fr b w w' := by
  have c0 := h.c0
  have f0 := h.f 0
  have g1 := h.set0 ⟨#[]⟩
  have c1 := g1.c1
  have f1 := g1.f 1
  have g2 := g1.set1 e
  have hB : Fr b w ((w.setCell ⟨b, 0, none⟩ (.string ⟨#[]⟩)).setCell ⟨b, 1, none⟩ (.int .i64 e)) := ((Fr.refl b w).setCell _ _).setCell _ _
  clear h g1
  go_enter Tryd.func48, Tryd.ntmps48
  go_wp2
  go_end0
  exact ⟨rfl, g2, hB⟩

theorem getRaw_bad (w : World) (b : Nat) (s : ByteArray) (bad n : Int) (hbad : bad ≠ 0) (h : GetAt w b s bad) :
    Calls Tryd.prog 31 #[.pointer (some ⟨b, 0, none⟩), .int .i64 n] w fun r w' => r = .returned (.string ⟨#[]⟩) ∧ w = w' := by
  have k : (bad != 0) = true := by simpa using hbad
  go_enter Tryd.func31, Tryd.ntmps31
  go_wp2_with (go_at_call 35; refine (getBad_any _ b s bad h).mono ?_; rintro e w' ⟨rfl, rfl⟩)
  go_ret
  exact ⟨rfl, rfl⟩
theorem getRaw_nil (w : World) (n : Int) :
    Calls Tryd.prog 31 #[.pointer none, .int .i64 n] w fun r w' => r = .returned (.string ⟨#[]⟩) ∧ w = w' := by
  go_enter Tryd.func31, Tryd.ntmps31
  go_wp2_with (go_at_call 35; refine (getBad_nil _).mono ?_; rintro e w' ⟨rfl, rfl⟩)
  go_ret
  exact ⟨rfl, rfl⟩
theorem getRaw_neg (w : World) (b : Nat) (s : ByteArray) (n : Int) (hn : n < 0) (h : GetAt w b s 0) :
    Calls Tryd.prog 31 #[.pointer (some ⟨b, 0, none⟩), .int .i64 n] w fun r w' => r = .returned (.string ⟨#[]⟩) ∧ GetAt w' b ⟨#[]⟩ 1 ∧ Fr b w w' := by
  have k : decide (n < 0) = true := by simpa using hn
  go_enter Tryd.func31, Tryd.ntmps31
  go_wp2_with (first | (go_at_call 35; refine (getBad_any _ b s 0 h).mono ?_; rintro e w' ⟨rfl, rfl⟩) | (go_at_call 48; refine (getFail_any _ b s 0 1 h).mono ?_; rintro e w' ⟨rfl, h1, h2⟩))
  go_ret
  exact ⟨rfl, h1, h2⟩
theorem getRaw_over (w : World) (b : Nat) (s : ByteArray) (n : Nat) (hn : s.size < n) (h : GetAt w b s 0) :
    Calls Tryd.prog 31 #[.pointer (some ⟨b, 0, none⟩), .int .i64 n] w fun r w' => r = .returned (.string ⟨#[]⟩) ∧ GetAt w' b ⟨#[]⟩ 5 ∧ Fr b w w' := by
  have k : decide ((n : Int) < 0) = false := by simp
  have k2 : decide (s.size < n) = true := by simpa using hn
  have k3 : decide ((s.size : Int) < (n : Int)) = true := by simpa using hn
  have c0 := h.c0
  go_enter Tryd.func31, Tryd.ntmps31
  go_wp2_with (first | (go_at_call 35; refine (getBad_any _ b s 0 h).mono ?_; rintro e w' ⟨rfl, rfl⟩) | (go_at_call 48; refine (getFail_any _ b s 0 5 h).mono ?_; rintro e w' ⟨rfl, h1, h2⟩))
  go_ret
  exact ⟨rfl, h1, h2⟩
theorem getRaw_ok (w : World) (b : Nat) (s : ByteArray) (n : Nat) (hn : n ≤ s.size) (h : GetAt w b s 0) :
    Calls Tryd.prog 31 #[.pointer (some ⟨b, 0, none⟩), .int .i64 n] w fun r w' => r = .returned (.string (s.extract 0 n)) ∧ GetAt w' b (s.extract n s.size) 0 ∧ Fr b w w' := by
  have k : decide ((n : Int) < 0) = false := by simp
  have k2 : decide (s.size < n) = false := by simpa using hn
  have k3 : decide ((s.size : Int) < (n : Int)) = false := by simpa using hn
  have c0 := h.c0
  have f0 := h.f 0
  have g1 := h.set0 (s.extract n s.size)
  have hB : Fr b w (w.setCell ⟨b, 0, none⟩ (.string (s.extract n s.size))) := ((Fr.refl b w).setCell _ _)
  go_enter Tryd.func31, Tryd.ntmps31
  go_wp2_with (first | (go_at_call 35; refine (getBad_any _ b s 0 h).mono ?_; rintro e w' ⟨rfl, rfl⟩))
  go_ret
  exact ⟨rfl, g1, hB⟩

end Go.Proofs.YtadcmjcafimkeaaDoor.P1
