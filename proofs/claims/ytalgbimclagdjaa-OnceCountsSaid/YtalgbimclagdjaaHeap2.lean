/-
  Package once's queue: Swap.
-/
import Derived.Test.YtalgbimclagdjaaHeap1
import Derived.Test.YtalgbimclagdjaaHeapX
namespace Go.Proofs.Ytalgbimclagdjaa.P3
open Go Go.RowKit Go.Lib Go.Maps Go.ChangeMaps Go.MapKept

theorem setBlock_fr {w : World} {m : Nat} {es : Array MapEntry} {clock : Nat} (h : w.heap[m]? = some (.map es clock)) (o : Obj) : Fr (· = m) w (setBlock w m o) :=
  ⟨rfl, rfl, rfl, by simp [setBlock], fun _ _ hk => heap_setBlock_other h o hk⟩

theorem qswap (w : World) {b : Nat} {cb : Array Value} {r m cap N : Nat} {ps : PinL} {D : DataW Unit} (h : QIs w b cb r m cap N ps D) (i j : Nat) (hi : i < ps.length) (hj : j < ps.length) (hij : i ≠ j) :
    Calls Try.prog 96 #[.pointer (some ⟨b, 3, none⟩), .int .i64 i, .int .i64 j] w fun e w' => e = .returned (.tuple #[]) ∧ (∃ D', QIs w' b cb r m cap N (swp ps i j) D') ∧ Fr (fun k => k = r ∨ k = m) w w' := by
  obtain ⟨rc, hr, hs, hl, hmx, hc⟩ := h.row
  have hrow := row_swap h.row hi hj hij
  obtain ⟨W1, hW1⟩ : ∃ W1, W1 = ((((w.setCell ⟨r, i * 2, none⟩ (.int .i64 (num ps j))).setCell ⟨r, i * 2 + 1, none⟩ (.int .i64 (idn ps j))).setCell ⟨r, j * 2, none⟩ (.int .i64 (num ps i))).setCell ⟨r, j * 2 + 1, none⟩ (.int .i64 (idn ps i))).drew := ⟨_, rfl⟩
  have hf1 : Fr (fun k => k = r ∨ k = m) w W1 := by
    rw [hW1]
    exact Fr.only (((((Only.refl r w).setCell _ _).setCell _ _).setCell _ _).setCell _ _).drew (.inl rfl)
  have hrow1 : RowIs W1 r cap (swp ps i j) := by rw [hW1]; exact hrow
  have hblk1 : W1.heap[b]? = some (.cells cb 61 (0, 0)) := hf1.keep h.blk (fun e => e.elim h.br h.bm)
  have hm1 : MapIs W1 m N D := by
    rw [hW1]
    exact fr_map h.map (Fr.only (S := (· = r)) (((((Only.refl r w).setCell _ _).setCell _ _).setCell _ _).setCell _ _).drew rfl) (fun e => h.rm e.symm)
  obtain ⟨rc1, hr1, _, _, _, hc1⟩ := hrow1
  have ei : W1.cell? ⟨r, i * 2 + 1, none⟩ = some (.int .i64 (idn ps j)) := by
    have := (hc1 i (by rw [swp_length]; exact hi)).2
    rw [swp_idn ps i j i hi hj, if_neg hij, if_pos rfl] at this
    exact (cell_at hr1 _).trans this
  have ej : W1.cell? ⟨r, j * 2 + 1, none⟩ = some (.int .i64 (idn ps i)) := by
    have := (hc1 j (by rw [swp_length]; exact hj)).2
    rw [swp_idn ps i j j hi hj, if_pos rfl] at this
    exact (cell_at hr1 _).trans this
  have wf1 : ∀ k, k < ps.length → (Lit.int .i64 (idn ps k)).wf = true := fun k hk => wf_small (by have := h.ids k hk; omega) (by have := h.ids k hk; have := h.room; omega)
  have hlen := h.len
  have hroom := h.room
  have wfi : (Lit.int .i64 (i : Int)).wf = true := wf_small (by omega) (by omega)
  have wfj : (Lit.int .i64 (j : Int)).wf = true := wf_small (by omega) (by omega)
  have hN : N < maxLen := by unfold maxLen; omega
  obtain ⟨o1, v1, s1, ho1, hE1, hS1⟩ := entry_old hm1 (wf1 j hj) (h.ties.1 j hj).1 hN
  obtain ⟨o1', hst1, hmap1⟩ := hS1 i wfi
  obtain ⟨es1, cl1, hb1, _⟩ := hm1
  obtain ⟨W2, hW2⟩ : ∃ W2, W2 = setBlock W1.drew m o1' := ⟨_, rfl⟩
  have h2m : W2.heap[m]? = some o1' := by rw [hW2]; exact heap_setBlock_same (w := W1.drew) hb1 _
  have hm2 := hmap1 W2 h2m
  have hf2 : Fr (· = m) W1 W2 := by rw [hW2]; exact (Fr.of (Below.refl _ W1).drew).trans (setBlock_fr (w := W1.drew) hb1 _)
  have hne : kl (idn ps i) ≠ kl (idn ps j) := fun e => hij (h.ties.inj hi hj (kl_inj e))
  obtain ⟨o2, v2, s2, ho2, hE2, hS2⟩ := entry_old hm2 (wf1 i hi) (by rw [has_put_other hne]; exact (h.ties.1 i hi).1) hN
  obtain ⟨o2', hst2, hmap2⟩ := hS2 j wfj
  obtain ⟨es2, cl2, hb2, _⟩ := hm2
  obtain ⟨W3, hW3⟩ : ∃ W3, W3 = setBlock W2 m o2' := ⟨_, rfl⟩
  have hm3 := hmap2 W3 (by rw [hW3]; exact heap_setBlock_same hb2 _)
  have hf3 : Fr (· = m) W2 W3 := by rw [hW3]; exact setBlock_fr hb2 _
  have hf13 := hf2.trans hf3
  refine (qswap0 w b r m ps.length cap i j hi hj _ _ _ _ ((cell_at h.blk 3).trans h.c3) ((cell_at hr _).trans (hc i hi).1) ((cell_at hr _).trans (hc j hj).1)
    ((cell_at hr _).trans (hc i hi).2) ((cell_at hr _).trans (hc j hj).2) (free_at hr _) (free_at hr _) (free_at hr _) (free_at hr _) hij (fun e => hij e.symm) W1 W2 W3 hW1
    ((cell_at hblk1 3).trans h.c3) ((cell_at hblk1 4).trans h.c4) ei ej v1 v2 s1 s2 (hE1 _ ho1) (by rw [hW2]; exact hst1 _ ho1) (hE2 _ ho2) (by rw [hW3]; exact hst2 _ ho2)).mono ?_
  rintro e w' ⟨rfl, rfl⟩
  have hbm := h.bm
  have hrm := h.rm
  refine ⟨rfl, ⟨_, { blk := hf13.keep hblk1 hbm, c3 := by rw [swp_length]; exact h.c3, c4 := h.c4, row := fr_row ⟨rc1, hr1, by assumption, by assumption, hmx, hc1⟩ hf13 hrm, map := hm3, ties := ties_swap h.ties ?_ hi hj hij, ids := ?_, len := by rw [swp_length]; exact h.len, room := h.room }⟩, hf1.trans (hf13.mono fun k _ e => .inr e)⟩
  · obtain ⟨es, clock, _, _, _, rfl⟩ := h.map
    exact ⟨_, rfl⟩
  · intro k hk
    rw [swp_length] at hk
    rw [swp_idn ps i j k hi hj]
    split
    · exact h.ids i hi
    · split
      · exact h.ids j hj
      · exact h.ids k hk

end Go.Proofs.Ytalgbimclagdjaa.P3
