/-
  Package once's queue: Swap, as it goes step by step.
-/
import Derived.Test.YtalgbimclagdjaaBase3
import Derived.BigRegion
import Derived.Maps.OwnSet
namespace Go.Proofs.Ytalgbimclagdjaa.P3
open Go Go.RowKit Go.Lib Go.Maps Go.ChangeMaps Go.MapKept

set_option maxRecDepth 100000 in
set_option maxHeartbeats 4000000 in
theorem qswap0 (w : World) (b r m : Nat) (n cap i j : Nat) (hi : i < n) (hj : j < n) (x y p q : Int) (h : w.cell? ⟨b, 3, none⟩ = some (.slice (some ⟨r, 0, none⟩) n cap))
    (ci : w.cell? ⟨r, i * 2, none⟩ = some (.int .i64 x)) (cj : w.cell? ⟨r, j * 2, none⟩ = some (.int .i64 y))
    (di : w.cell? ⟨r, i * 2 + 1, none⟩ = some (.int .i64 p)) (dj : w.cell? ⟨r, j * 2 + 1, none⟩ = some (.int .i64 q)) 
    (fi : w.frozen? ⟨r, i * 2, none⟩ = false) (fj : w.frozen? ⟨r, j * 2, none⟩ = false)
    (gi : w.frozen? ⟨r, i * 2 + 1, none⟩ = false) (gj : w.frozen? ⟨r, j * 2 + 1, none⟩ = false)
    (_hij : ¬ i = j) (_hji : ¬ j = i) (W1 W2 W3 : World) (hW1 : W1 = ((((w.setCell ⟨r, i * 2, none⟩ (.int .i64 y)).setCell ⟨r, i * 2 + 1, none⟩ (.int .i64 q)).setCell ⟨r, j * 2, none⟩ (.int .i64 x)).setCell ⟨r, j * 2 + 1, none⟩ (.int .i64 p)).drew)
    (e3 : W1.cell? ⟨b, 3, none⟩ = some (.slice (some ⟨r, 0, none⟩) n cap)) (e4 : W1.cell? ⟨b, 4, none⟩ = some (.map (some m)))
    (ei : W1.cell? ⟨r, i * 2 + 1, none⟩ = some (.int .i64 q)) (ej : W1.cell? ⟨r, j * 2 + 1, none⟩ = some (.int .i64 p))
    (v1 v2 : Value) (s1 s2 : Nat)
    (m1 : (Instr.mapEntry 57 (.map (some m)) (.int .i64 q)).run Try.prog W1.drew = .ok (.tuple #[v1, .int .i64 s1]) W1.drew)
    (m2 : (Instr.entryStore 57 (.map (some m)) (.int .i64 s1) (.int .i64 i)).run Try.prog W1.drew = .ok () W2)
    (m3 : (Instr.mapEntry 57 (.map (some m)) (.int .i64 p)).run Try.prog W2 = .ok (.tuple #[v2, .int .i64 s2]) W2)
    (m4 : (Instr.entryStore 57 (.map (some m)) (.int .i64 s2) (.int .i64 j)).run Try.prog W2 = .ok () W3) :
    Calls Try.prog 96 #[.pointer (some ⟨b, 3, none⟩), .int .i64 i, .int .i64 j] w fun e w' => e = .returned (.tuple #[]) ∧ W3 = w' := by
  have b1 : (i : Int) < (n : Int) := by omega
  have b2 : (j : Int) < (n : Int) := by omega
  have HW := Lib.hid hW1
  clear hW1
  go_enter Try.func96, Try.ntmps96
  go_wp2
  go_region
  rw [← HW.out]
  clear h ci cj di dj fi fj gi gj
  go_wp2
  go_region
  go_end0
  exact ⟨rfl, rfl⟩

end Go.Proofs.Ytalgbimclagdjaa.P3
