/-
  Captured variables of kind int, and the function literals that count their calls.
-/
import Derived.Test.YtalgbimclagdjaaAlive3
namespace Go.Proofs.Ytalgbimclagdjaa.P3
open Go Go.RowKit Go.Lib Go.Maps Go.ChangeMaps Go.MapKept

/-- block b is a variable of kind int that holds n -/
def IntAt (w : World) (b : Nat) (n : Int) : Prop := w.heap[b]? = some (.cells #[.int .i64 n] 3 (0, 0))
theorem IntAt.cell {w : World} {b : Nat} {n : Int} (h : IntAt w b n) : w.cell? ⟨b, 0, none⟩ = some (.int .i64 n) := by rw [cell_at h]; rfl
theorem IntAt.free {w : World} {b : Nat} {n : Int} (h : IntAt w b n) : w.frozen? ⟨b, 0, none⟩ = false := free_at h 0
theorem IntAt.set {w : World} {b : Nat} {n : Int} (h : IntAt w b n) (m : Int) : IntAt (w.setCell ⟨b, 0, none⟩ (.int .i64 m)) b m := by
  unfold IntAt; rw [set_at h]; rfl
theorem IntAt.new (w : World) (n : Int) : IntAt (w.alloc (.cells #[.int .i64 n] 3)) w.heap.size n := heap_alloc_new w _
theorem IntAt.alloc {w : World} {b : Nat} {n : Int} (h : IntAt w b n) (o : Obj) : IntAt (w.alloc o) b n := old_alloc h o
theorem IntAt.lt {w : World} {b : Nat} {n : Int} (h : IntAt w b n) : b < w.heap.size := lt_of_block h
theorem IntAt.below {w w' : World} {b : Nat} {n : Int} (h : IntAt w b n) (hb : Below w.heap.size w w') : IntAt w' b n := old_below h hb
theorem IntAt.only {w w' : World} {b k : Nat} {n : Int} (h : IntAt w b n) (hb : Only k w w') (hk : b ≠ k) : IntAt w' b n := hb.keep h hk
theorem IntAt.fr {S : Nat → Prop} {w w' : World} {b : Nat} {n : Int} (h : IntAt w b n) (hb : Fr S w w') (hk : ¬ S b) : IntAt w' b n := hb.keep h hk

theorem none1 (w : World) (bc bn : Nat) (k n : Int) (hc : IntAt w bc k) (hn : IntAt w bn n) (hne : bc ≠ bn) :
    Calls Try.prog 25 #[.pointer (some ⟨bc, 0, none⟩), .pointer (some ⟨bn, 0, none⟩)] w fun e w' => e = .returned (.int .i64 n) ∧ IntAt w' bc (wrap64 (k + 1)) ∧ Only bc w w' := by
  have c1 := hc.cell
  have f1 := hc.free
  have c2 := hn.cell
  have c3 : (w.setCell ⟨bc, 0, none⟩ (.int .i64 (wrap64 (k + 1)))).cell? ⟨bn, 0, none⟩ = some (.int .i64 n) := (hn.only ((Only.refl bc w).setCell 0 _) hne.symm).cell
  have HS := Lib.hid (hc.set (wrap64 (k + 1)))
  clear hc hn
  go_enter Try.func25, Try.ntmps25
  go_wp2
  go_ret
  exact ⟨rfl, HS.out, (Only.refl _ _).setCell 0 _⟩
theorem none2 (w : World) (bc bn : Nat) (k n : Int) (hc : IntAt w bc k) (hn : IntAt w bn n) (hne : bc ≠ bn) :
    Calls Try.prog 26 #[.pointer (some ⟨bc, 0, none⟩), .pointer (some ⟨bn, 0, none⟩)] w fun e w' => e = .returned (.int .i64 n) ∧ IntAt w' bc (wrap64 (k + 1)) ∧ Only bc w w' := by
  have c1 := hc.cell
  have f1 := hc.free
  have c2 := hn.cell
  have c3 : (w.setCell ⟨bc, 0, none⟩ (.int .i64 (wrap64 (k + 1)))).cell? ⟨bn, 0, none⟩ = some (.int .i64 n) := (hn.only ((Only.refl bc w).setCell 0 _) hne.symm).cell
  have HS := Lib.hid (hc.set (wrap64 (k + 1)))
  clear hc hn
  go_enter Try.func26, Try.ntmps26
  go_wp2
  go_ret
  exact ⟨rfl, HS.out, (Only.refl _ _).setCell 0 _⟩
theorem en_none1 : ∀ args w, (callFunc 25 args).run Try.prog w = .ok (.enter 25 args) w := fun args w => enters Try.func25 (by kernel_rfl) rfl args w
theorem en_none2 : ∀ args w, (callFunc 26 args).run Try.prog w = .ok (.enter 26 args) w := fun args w => enters Try.func26 (by kernel_rfl) rfl args w

end Go.Proofs.Ytalgbimclagdjaa.P3
