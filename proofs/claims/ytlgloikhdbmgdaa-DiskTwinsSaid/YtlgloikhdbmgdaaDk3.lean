/-
  Package disk: a file's size, its writes' number; a write; Sync. (Disk, part 3.)
-/
import Derived.Test.YtlgloikhdbmgdaaDk1
import Derived.Test.YtlgloikhdbmgdaaDk2
import Derived.Deep.AppendLies
import Derived.Deep.RegionLaw
namespace Go.Proofs.Ytlgloikhdbmgdaa.P4
open Go Go.RowKit Go.Lib Go.Proofs.Ytlgloikhdbmgdaa.P3

theorem ptr_shape (o : Option Nat) : ∃ p, ptr o = .pointer p := by cases o <;> exact ⟨_, rfl⟩

theorem size_nil (w : World) : Calls Try.prog 32 #[.pointer none] w fun e w' => e = .returned (.int .i64 0) ∧ w = w' := by
  go_enter Try.func32, Try.ntmps32
  go_wp2
  go_ret
  exact ⟨rfl, rfl⟩
theorem size0 (w : World) (b : Nat) (a : Option Addr) (n cap : Nat) (c0 : w.cell? ⟨b, 0, none⟩ = some (.slice a n cap)) : Calls Try.prog 32 #[.pointer (some ⟨b, 0, none⟩)] w fun e w' => e = .returned (.int .i64 n) ∧ w = w' := by
  go_enter Try.func32, Try.ntmps32
  go_wp2
  go_ret
  exact ⟨rfl, rfl⟩
theorem dirty0 (w : World) (b : Nat) (n : Int) (c5 : w.cell? ⟨b, 5, none⟩ = some (.int .i64 n)) : Calls Try.prog 43 #[.pointer (some ⟨b, 0, none⟩)] w fun e w' => e = .returned (.int .i64 n) ∧ w = w' := by
  go_enter Try.func43, Try.ntmps43
  go_wp2
  go_ret
  exact ⟨rfl, rfl⟩
theorem FileAt.size {w : World} {F : Fl} (h : FileAt w F) : Calls Try.prog 32 #[.pointer (some ⟨F.b, 0, none⟩)] w fun e w' => e = .returned (.int .i64 F.secs.length) ∧ w = w' := by
  obtain ⟨a, cap, e⟩ := owns_shape h.row
  exact size0 w F.b a _ cap ((cell_at h.blk 0).trans (by rw [← e]; rfl))
theorem FileAt.dirty {w : World} {F : Fl} (h : FileAt w F) : Calls Try.prog 43 #[.pointer (some ⟨F.b, 0, none⟩)] w fun e w' => e = .returned (.int .i64 F.ws.length) ∧ w = w' :=
  dirty0 w F.b _ ((cell_at h.blk 5).trans rfl)

set_option maxRecDepth 100000 in
theorem write_old0 (w : World) (b g n cap i : Nat) (t : Int) (d o : ByteArray) (p u : Option Addr) (hi : i < n) (c0 : w.cell? ⟨b, 0, none⟩ = some (.slice (some ⟨g, 0, none⟩) n cap)) (q2 : w.cell? ⟨g, i * 3 + 2, none⟩ = some (.pointer p)) (Q : World → Prop)
    (HA : Calls Try.prog 50 #[.pointer (some ⟨b, 3, none⟩), .pointer (some ⟨w.heap.size, 0, none⟩)] (w.alloc (.cells #[.int .i64 t, .int .i64 i, .string d, .int .i64 0, .pointer none, .pointer none, .pointer p] 71)) fun e w' => e = .returned (.tuple #[]) ∧ Q w')
    (HQ : ∀ w2, Q w2 → w2.cell? ⟨g, i * 3, none⟩ = some (.string o) ∧ w2.cell? ⟨g, i * 3 + 2, none⟩ = some (.pointer u) ∧ w2.frozen? ⟨g, i * 3, none⟩ = false ∧ w2.frozen? ⟨g, i * 3 + 2, none⟩ = false) :
    Calls Try.prog 35 #[.pointer (some ⟨b, 0, none⟩), .int .i64 t, .int .i64 i, .string d] w fun e w' => e = .returned (.tuple #[]) ∧
      ∃ w2, Q w2 ∧ w' = (w2.setCell ⟨g, i * 3, none⟩ (.string d)).setCell ⟨g, i * 3 + 2, none⟩ (.pointer (some ⟨w.heap.size, 0, none⟩)) := by
  have b1 : (i : Int) < (n : Int) := by omega
  have k1 : ((i : Int) == (n : Int)) = false := by simp; omega
  have H := Lib.hid HA
  have HH := Lib.hid HQ
  clear HA HQ
  go_enter Try.func35, Try.ntmps35
  go_wp2_with (go_at_call 50; (with_reducible refine H.out.mono ?_); rintro e w2 ⟨rfl, hq⟩; obtain ⟨r0, r2, s0, s2⟩ := HH.out w2 hq)
  go_end0
  exact ⟨rfl, w2, hq, rfl⟩

theorem infoSec : (Try.prog.info? 73).map (fun i => (i.zero, i.size, i.bytes)) = some (some (.agg #[.string ⟨#[]⟩, .string ⟨#[]⟩, .pointer none]), 3, 40) := by kernel_rfl
def noSec : List Value := [.string ⟨#[]⟩, .string ⟨#[]⟩, .pointer none]

/-- the row v, of n sectors, one more behind them: at g -/
structure Grown1 (w : World) (v : Value) (n : Nat) (xs : List Value) (g cap : Nat) (w4 : World) : Prop where
  row : w4.ownsRow 0 73 3 (.slice (some ⟨g, 0, none⟩) (n + 1) cap) (n + 1) (xs ++ noSec)
  grown : w.grownBy w4 v.ownBlock
  lies : v.ownBlock = some g ∨ w.heap.size ≤ g

set_option maxRecDepth 100000 in
set_option maxHeartbeats 1000000 in
theorem write_new0 (w : World) (b n : Nat) (v : Value) (a : Option Addr) (cap : Nat) (xs : List Value) (t : Int) (d : ByteArray) (hv : v = .slice a n cap) (hn : n ≤ 5000) (c0 : w.cell? ⟨b, 0, none⟩ = some v) (hown : w.ownsRow 0 73 3 v n xs) (Q : Nat → Nat → World → World → Prop)
    (HB : ∀ g cap' w4, Grown1 w v n xs g cap' w4 → w4.frozen? ⟨b, 0, none⟩ = false ∧ (∃ u, w4.cell? ⟨b, 0, none⟩ = some u) ∧ b ≠ g)
    (HA : ∀ g cap' w4, Grown1 w v n xs g cap' w4 → Calls Try.prog 50 #[.pointer (some ⟨b, 3, none⟩), .pointer (some ⟨w4.heap.size, 0, none⟩)] ((w4.setCell ⟨b, 0, none⟩ (.slice (some ⟨g, 0, none⟩) (n + 1) cap')).alloc (.cells #[.int .i64 t, .int .i64 n, .string d, .int .i64 0, .pointer none, .pointer none, .pointer none] 71)) fun e w' => e = .returned (.tuple #[]) ∧ Q g cap' w4 w')
    (HQ : ∀ g cap' w4 w2, Q g cap' w4 w2 → (∃ o, w2.cell? ⟨g, n * 3, none⟩ = some (.string o)) ∧ (∃ u, w2.cell? ⟨g, n * 3 + 2, none⟩ = some (.pointer u)) ∧ w2.frozen? ⟨g, n * 3, none⟩ = false ∧ w2.frozen? ⟨g, n * 3 + 2, none⟩ = false) :
    Calls Try.prog 35 #[.pointer (some ⟨b, 0, none⟩), .int .i64 t, .int .i64 n, .string d] w fun e w' => e = .returned (.tuple #[]) ∧
      ∃ g cap' w4 w2, Grown1 w v n xs g cap' w4 ∧ Q g cap' w4 w2 ∧ w' = (w2.setCell ⟨g, n * 3, none⟩ (.string d)).setCell ⟨g, n * 3 + 2, none⟩ (.pointer (some ⟨w4.heap.size, 0, none⟩)) := by
  obtain ⟨i0, hi, hz0, hz1, hz2⟩ := info_parts infoSec
  have b1 : (n : Int) < (n : Int) + 1 := by omega
  have b2 : (n : Int) < ((n + 1 : Nat) : Int) := by omega
  have H := Lib.hid HA
  have HH := Lib.hid HQ
  have HBB := Lib.hid HB
  have HO := Lib.hid hown
  have HN := Lib.hid hn
  subst hv
  clear HA HQ hown HB hn
  go_enter Try.func35, Try.ntmps35
  go_wp2_with (at_builtin; refine wpList_append_lies _ rfl _ _ 74 rfl 0 73 i0 (.agg #[.string ⟨#[]⟩, .string ⟨#[]⟩, .pointer none]) 3 40 Try.underlying74 hi hz0 hz1 hz2 rfl (by decide) _ n xs rfl (HO.out.alloc _) ⟨w.heap.size, 0, none⟩ 1 1 noSec rfl rfl ?c1 ?c2 (by decide) ?c3 ?c4 (Nat.zero_le _) (w.heap.size + 1) (by simp) ?_)
  case c1 => exact World.news_of_block (heap_alloc_new w _)
  case c2 => intro u hu; simp [noSec] at hu; rcases hu with rfl | rfl | rfl <;> rfl
  case c3 => have := HN.out; unfold maxLen; omega
  case c4 => have := HN.out; omega
  intro g cap' w4 hown' hgrow hat hlt
  have HG : Hid (Grown1 w (.slice a n cap) n xs g cap' w4) := ⟨hown', (World.grownBy_alloc w _ _).trans hgrow, hat.imp id (fun e => by omega)⟩
  obtain ⟨q1, ⟨u, q2⟩, q3⟩ := HBB.out g cap' w4 HG.out
  have q4 : g ≠ b := fun e => q3 e.symm
  have r2 : w4.cell? ⟨g, n * 3 + 2, none⟩ = some (.pointer none) := owns_cell hown' (j := n * 3 + 2) (by rw [List.getElem?_append_right (by rw [HO.out.1]; omega), HO.out.1, show n * 3 + 2 - n * 3 = 2 by omega]; rfl)
  have HC := Lib.hid (H.out g cap' w4 HG.out)
  clear hown' hgrow hat HO HBB H
  go_wp2_with (go_at_call 50; (with_reducible refine HC.out.mono ?_); rintro e w2 ⟨rfl, hq⟩; obtain ⟨⟨o1, r0⟩, ⟨o2, r2'⟩, s0, s2⟩ := HH.out g cap' w4 w2 hq)
  go_end0
  exact ⟨rfl, g, cap', w4, w2, HG.out, hq, rfl⟩

end Go.Proofs.Ytlgloikhdbmgdaa.P4
