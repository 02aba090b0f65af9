/-
  Package once's queue: Push.
-/
import Derived.Test.YtalgbimclagdjaaHeap1
import Derived.Deep.AppendLies
import Derived.Deep.RegionLaw
namespace Go.Proofs.Ytalgbimclagdjaa.P3
open Go Go.RowKit Go.Lib Go.Maps Go.ChangeMaps Go.MapKept

theorem eqlMap (w : World) (r : Option Nat) : (binOp .eql 57 (.map r) (.map none)).run Try.prog w = .ok (.bool r.isNone) w := run_eql_map_nil w _ _ _ r Try.underlying57

theorem assertPin (v : Value) (xT : TypeId) (w : World) : (Instr.typeAssert (.iface 84 v) xT 84 false).run Try.prog w = .ok v w := by
  simp [Instr.typeAssert, run_underlying Try.underlying84]

theorem infoPin : (Try.prog.info? 84).map (fun i => (i.zero, i.size, i.bytes)) = some (some (.agg #[.int .i64 0, .int .i64 0]), 2, 16) := by kernel_rfl

/-- what Push leaves: the map was written (W2), the row appended to (W4), the slice stored -/
def Pushed (b n cap : Nat) (rowv : Option Addr) (xs : List Value) (cb : Array Value) (x y : Int) (W2 w' : World) : Prop :=
  ∃ (g cap' : Nat) (W4 : World), W4.ownsRow 0 84 2 (.slice (some ⟨g, 0, none⟩) (n + 1) cap') (n + 1) (xs ++ [.int .i64 x, .int .i64 y]) ∧ W2.grownBy W4 (Value.slice rowv n cap).ownBlock ∧
    ((Value.slice rowv n cap).ownBlock = some g ∨ W2.heap.size ≤ g) ∧ W4.heap[b]? = some (.cells cb 61 (0, 0)) ∧ w' = W4.setCell ⟨b, 3, none⟩ (.slice (some ⟨g, 0, none⟩) (n + 1) cap')

set_option maxRecDepth 100000 in
set_option maxHeartbeats 4000000 in
theorem push_old (w : World) (b m n : Nat) (rowv : Option Addr) (cap : Nat) (xs : List Value) (cb : Array Value) (x y : Int) (hb : w.heap[b]? = some (.cells cb 61 (0, 0))) (h3 : cb[3]? = some (.slice rowv n cap)) (h4 : cb[4]? = some (.map (some m))) (W1 W2 : World)
    (hW1 : W1 = w.alloc (.cells #[.int .i64 x, .int .i64 y] 84))
    (hM : (Instr.mapUpdate 57 (.map (some m)) (.int .i64 y) (.int .i64 n)).run Try.prog W1.drew = .ok () W2)
    (hb1 : W1.heap[b]? = some (.cells cb 61 (0, 0))) (hb2 : W2.heap[b]? = some (.cells cb 61 (0, 0))) (hl1 : W1.heap[w.heap.size]? = some (.cells #[.int .i64 x, .int .i64 y] 84 (0, 0))) (hl2 : W2.heap[w.heap.size]? = some (.cells #[.int .i64 x, .int .i64 y] 84 (0, 0))) 
    (hown : W2.ownsRow 0 84 2 (.slice rowv n cap) n xs) (hn : n ≤ 1000000) :
    Calls Try.prog 95 #[.pointer (some ⟨b, 3, none⟩), .iface 84 (.agg #[.int .i64 x, .int .i64 y])] w fun e w' => e = .returned (.tuple #[]) ∧ Pushed b n cap rowv xs cb x y W2 w' := by
  obtain ⟨i0, hi, hz0, hz1, hz2⟩ := info_parts infoPin
  have q4 : w.cell? ⟨b, 4, none⟩ = some (.map (some m)) := (cell_at hb 4).trans h4
  have he := fun w => eqlMap w
  have ha := assertPin
  have HW := Lib.hid hW1
  have B1 := Lib.hid hb1
  have B2 := Lib.hid hb2
  have L1 := Lib.hid hl1
  have L2 := Lib.hid hl2
  have r3 : W1.cell? ⟨b, 3, none⟩ = some (.slice rowv n cap) := (cell_at hb1 3).trans h3
  have r4 : W1.cell? ⟨b, 4, none⟩ = some (.map (some m)) := (cell_at hb1 4).trans h4
  have l0 : W1.cell? ⟨w.heap.size, 1, none⟩ = some (.int .i64 y) := by rw [cell_at hl1]; rfl
  have OW := Lib.hid hown
  have C3 := Lib.hid h3
  have tw : ∀ u ∈ [Value.int .i64 x, Value.int .i64 y], u.oneCell' = true := by intro u hu; simp at hu; rcases hu with rfl | rfl <;> rfl
  have TW := Lib.hid tw
  have hne : some b ≠ (Value.slice rowv n cap).ownBlock := by
    rcases hown.2 with ⟨h0, _⟩ | ⟨g, cp, cur, h0, _, hg, _⟩
    · simp only [Value.slice.injEq] at h0
      rw [h0.1]
      simp [Value.ownBlock]
    · simp only [Value.slice.injEq] at h0
      rw [h0.1]
      simp only [Value.ownBlock, ne_eq, Option.some.injEq]
      rintro rfl
      rw [hb2] at hg
      simp at hg
  have hgg : ∀ W4 : World, ((W2.alloc (.cells #[.int .i64 x, .int .i64 y] 84)).drew).grownBy W4 (Value.slice rowv n cap).ownBlock → W2.grownBy W4 (Value.slice rowv n cap).ownBlock ∧ W4.heap[b]? = some (.cells cb 61 (0, 0)) := by
    intro W4 hg
    have h1 : W2.grownBy W4 (Value.slice rowv n cap).ownBlock := (World.grownBy_alloc W2 (.cells #[.int .i64 x, .int .i64 y] 84) _).trans ⟨hg.os, hg.tape, hg.output, hg.size, hg.block⟩
    exact ⟨h1, by rw [h1.block b (lt_of_block hb2) hne]; exact hb2⟩
  have GG := Lib.hid hgg
  clear h3 hW1 hb hb1 hb2 hl1 hl2 hown tw hgg hne
  go_enter Try.func95, Try.ntmps95
  go_wp2
  rw [← HW.out]
  clear q4
  go_region
  clear r3 r4 l0 hM
  have r3 : W2.cell? ⟨b, 3, none⟩ = some (.slice rowv n cap) := (cell_at B2.out 3).trans C3.out
  have a3 : (W2.alloc (.cells #[.int .i64 x, .int .i64 y] 84)).cell? ⟨b, 3, none⟩ = some (.slice rowv n cap) := (cell_at (old_alloc B2.out _) 3).trans C3.out
  have l0 : W2.cell? ⟨w.heap.size, 0, none⟩ = some (.int .i64 x) := by rw [cell_at L2.out]; rfl
  have l1 : W2.cell? ⟨w.heap.size, 1, none⟩ = some (.int .i64 y) := by rw [cell_at L2.out]; rfl
  go_wp2
  go_region_law (refine step_append_lies _ rfl (.tmp 31) (.tmp 33) 56 rfl 0 84 i0 (.agg #[.int .i64 0, .int .i64 0]) 2 16 Try.underlying56 hi hz0 hz1 hz2 rfl (by decide) (.slice rowv n cap) n xs rfl (by exact OW.out.alloc (.cells #[.int .i64 x, .int .i64 y] 84)) _ 1 1 [.int .i64 x, .int .i64 y] rfl rfl (World.news_of_block (cs := #[.int .i64 x, .int .i64 y]) (by exact heap_alloc_new W2 _)) TW.out (by decide) (by unfold maxLen; omega) (by omega) (Nat.zero_le _) _ rfl ?_; intro g cap' W4 hown4 hgrow hat hlt; have q3 := (cell_at (GG.out W4 hgrow).2 3).trans C3.out; have q4 := free_at (GG.out W4 hgrow).2 3)
  all_goals
    go_end0
    exact ⟨rfl, g, cap', W4, hown4, (GG.out W4 hgrow).1, hat.imp id (fun e => by simp at e; omega), (GG.out W4 hgrow).2, rfl⟩

set_option maxRecDepth 100000 in
set_option maxHeartbeats 4000000 in
theorem push_nil (w : World) (b n : Nat) (rowv : Option Addr) (cap : Nat) (xs : List Value) (c0 cb : Array Value) (x y : Int) (hb : w.heap[b]? = some (.cells c0 61 (0, 0))) (h30 : c0[4]? = some (.map none)) (h3 : cb[3]? = some (.slice rowv n cap)) (h4 : cb[4]? = some (.map (some w.heap.size))) (W1 W2 : World)
    (hW1 : W1 = ((w.setCell ⟨b, 4, none⟩ (.map (some w.heap.size))).alloc (.map #[] 0)).alloc (.cells #[.int .i64 x, .int .i64 y] 84))
    (hM : (Instr.mapUpdate 57 (.map (some w.heap.size)) (.int .i64 y) (.int .i64 n)).run Try.prog W1.drew = .ok () W2)
    (hb1 : W1.heap[b]? = some (.cells cb 61 (0, 0))) (hb2 : W2.heap[b]? = some (.cells cb 61 (0, 0))) (hl1 : W1.heap[w.heap.size + 1]? = some (.cells #[.int .i64 x, .int .i64 y] 84 (0, 0))) (hl2 : W2.heap[w.heap.size + 1]? = some (.cells #[.int .i64 x, .int .i64 y] 84 (0, 0))) 
    (hown : W2.ownsRow 0 84 2 (.slice rowv n cap) n xs) (hn : n ≤ 1000000) :
    Calls Try.prog 95 #[.pointer (some ⟨b, 3, none⟩), .iface 84 (.agg #[.int .i64 x, .int .i64 y])] w fun e w' => e = .returned (.tuple #[]) ∧ Pushed b n cap rowv xs cb x y W2 w' := by
  obtain ⟨i0, hi, hz0, hz1, hz2⟩ := info_parts infoPin
  have q4 : w.cell? ⟨b, 4, none⟩ = some (.map none) := (cell_at hb 4).trans h30
  have f4 := free_at hb 4
  have hmm := @run_makeMap Try.prog
  have hlt := lt_of_block hb
  have he := fun w => eqlMap w
  have ha := assertPin
  have HW := Lib.hid hW1
  have B1 := Lib.hid hb1
  have B2 := Lib.hid hb2
  have L1 := Lib.hid hl1
  have L2 := Lib.hid hl2
  have r3 : W1.cell? ⟨b, 3, none⟩ = some (.slice rowv n cap) := (cell_at hb1 3).trans h3
  have r4 : W1.cell? ⟨b, 4, none⟩ = some (.map (some w.heap.size)) := (cell_at hb1 4).trans h4
  have l0 : W1.cell? ⟨w.heap.size + 1, 1, none⟩ = some (.int .i64 y) := by rw [cell_at hl1]; rfl
  have OW := Lib.hid hown
  have C3 := Lib.hid h3
  have tw : ∀ u ∈ [Value.int .i64 x, Value.int .i64 y], u.oneCell' = true := by intro u hu; simp at hu; rcases hu with rfl | rfl <;> rfl
  have TW := Lib.hid tw
  have hne : some b ≠ (Value.slice rowv n cap).ownBlock := by
    rcases hown.2 with ⟨h0, _⟩ | ⟨g, cp, cur, h0, _, hg, _⟩
    · simp only [Value.slice.injEq] at h0
      rw [h0.1]
      simp [Value.ownBlock]
    · simp only [Value.slice.injEq] at h0
      rw [h0.1]
      simp only [Value.ownBlock, ne_eq, Option.some.injEq]
      rintro rfl
      rw [hb2] at hg
      simp at hg
  have hgg : ∀ W4 : World, ((W2.alloc (.cells #[.int .i64 x, .int .i64 y] 84)).drew).grownBy W4 (Value.slice rowv n cap).ownBlock → W2.grownBy W4 (Value.slice rowv n cap).ownBlock ∧ W4.heap[b]? = some (.cells cb 61 (0, 0)) := by
    intro W4 hg
    have h1 : W2.grownBy W4 (Value.slice rowv n cap).ownBlock := (World.grownBy_alloc W2 (.cells #[.int .i64 x, .int .i64 y] 84) _).trans ⟨hg.os, hg.tape, hg.output, hg.size, hg.block⟩
    exact ⟨h1, by rw [h1.block b (lt_of_block hb2) hne]; exact hb2⟩
  have GG := Lib.hid hgg
  clear h3 h30 hW1 hb hb1 hb2 hl1 hl2 hown tw hgg hne
  go_enter Try.func95, Try.ntmps95
  go_wp2
  rw [← HW.out]
  clear q4 f4 hmm hlt
  go_region
  clear r3 r4 l0 hM
  have r3 : W2.cell? ⟨b, 3, none⟩ = some (.slice rowv n cap) := (cell_at B2.out 3).trans C3.out
  have a3 : (W2.alloc (.cells #[.int .i64 x, .int .i64 y] 84)).cell? ⟨b, 3, none⟩ = some (.slice rowv n cap) := (cell_at (old_alloc B2.out _) 3).trans C3.out
  have l0 : W2.cell? ⟨w.heap.size + 1, 0, none⟩ = some (.int .i64 x) := by rw [cell_at L2.out]; rfl
  have l1 : W2.cell? ⟨w.heap.size + 1, 1, none⟩ = some (.int .i64 y) := by rw [cell_at L2.out]; rfl
  go_wp2
  go_region_law (refine step_append_lies _ rfl (.tmp 31) (.tmp 33) 56 rfl 0 84 i0 (.agg #[.int .i64 0, .int .i64 0]) 2 16 Try.underlying56 hi hz0 hz1 hz2 rfl (by decide) (.slice rowv n cap) n xs rfl (by exact OW.out.alloc (.cells #[.int .i64 x, .int .i64 y] 84)) _ 1 1 [.int .i64 x, .int .i64 y] rfl rfl (World.news_of_block (cs := #[.int .i64 x, .int .i64 y]) (by exact heap_alloc_new W2 _)) TW.out (by decide) (by unfold maxLen; omega) (by omega) (Nat.zero_le _) _ rfl ?_; intro g cap' W4 hown4 hgrow hat hlt; have q3 := (cell_at (GG.out W4 hgrow).2 3).trans C3.out; have q4 := free_at (GG.out W4 hgrow).2 3)
  all_goals
    go_end0
    exact ⟨rfl, g, cap', W4, hown4, (GG.out W4 hgrow).1, hat.imp id (fun e => by simp at e; omega), (GG.out W4 hgrow).2, rfl⟩

end Go.Proofs.Ytalgbimclagdjaa.P3
