/-
  Texts of the proof of SaidKeeps8, side by side: Dk1.
-/
import Derived.Test.YtbkngnjkaledlaaGreatMk01
import Derived.BigRegion
/-
  Package disk: a list of writes: one more, one less. (Disk, part 1.)
-/
namespace Go.Proofs.YtbkngnjkaledlaaGreat.P4
open Go Go.RowKit Go.Lib Go.Proofs.YtbkngnjkaledlaaGreat.P3

set_option maxRecDepth 100000 in
theorem add_nil (w : World) (b x : Nat) (n : Int) (u : Value) (hbx : b ≠ x) (c4 : w.cell? ⟨b, 4, none⟩ = some (.pointer none)) (c5 : w.cell? ⟨b, 5, none⟩ = some (.int .i64 n)) (c3 : w.cell? ⟨b, 3, none⟩ = some (.pointer none))
    (f3 : w.frozen? ⟨b, 3, none⟩ = false) (f4 : w.frozen? ⟨b, 4, none⟩ = false) (f5 : w.frozen? ⟨b, 5, none⟩ = false) (x4 : w.cell? ⟨x, 4, none⟩ = some u) (g4 : w.frozen? ⟨x, 4, none⟩ = false) (h0 : 0 ≤ n) (h1 : n ≤ 100000) :
    Calls Tryz.prog 133 #[.pointer (some ⟨b, 3, none⟩), .pointer (some ⟨x, 0, none⟩)] w fun e w' => e = .returned (.tuple #[]) ∧
      w' = (((w.setCell ⟨x, 4, none⟩ (.pointer none)).setCell ⟨b, 3, none⟩ (.pointer (some ⟨x, 0, none⟩))).setCell ⟨b, 4, none⟩ (.pointer (some ⟨x, 0, none⟩))).setCell ⟨b, 5, none⟩ (.int .i64 (n + 1)) := by
  have hxb : x ≠ b := fun e => hbx e.symm
  go_enter Tryz.func133, Tryz.ntmps133
  go_wp2
  go_end0
  exact ⟨rfl, rfl⟩

set_option maxRecDepth 100000 in
theorem add_some (w : World) (b x z : Nat) (n : Int) (u u' : Value) (hbx : b ≠ x) (hbz : b ≠ z) (hxz : x ≠ z) (c4 : w.cell? ⟨b, 4, none⟩ = some (.pointer (some ⟨z, 0, none⟩))) (c5 : w.cell? ⟨b, 5, none⟩ = some (.int .i64 n))
    (f4 : w.frozen? ⟨b, 4, none⟩ = false) (f5 : w.frozen? ⟨b, 5, none⟩ = false) (x4 : w.cell? ⟨x, 4, none⟩ = some u) (g4 : w.frozen? ⟨x, 4, none⟩ = false) (z5 : w.cell? ⟨z, 5, none⟩ = some u') (k5 : w.frozen? ⟨z, 5, none⟩ = false) (h0 : 0 ≤ n) (h1 : n ≤ 100000) :
    Calls Tryz.prog 133 #[.pointer (some ⟨b, 3, none⟩), .pointer (some ⟨x, 0, none⟩)] w fun e w' => e = .returned (.tuple #[]) ∧
      w' = (((w.setCell ⟨x, 4, none⟩ (.pointer (some ⟨z, 0, none⟩))).setCell ⟨z, 5, none⟩ (.pointer (some ⟨x, 0, none⟩))).setCell ⟨b, 4, none⟩ (.pointer (some ⟨x, 0, none⟩))).setCell ⟨b, 5, none⟩ (.int .i64 (n + 1)) := by
  have hxb : x ≠ b := fun e => hbx e.symm
  have hzb : z ≠ b := fun e => hbz e.symm
  have hzx : z ≠ x := fun e => hxz e.symm
  go_enter Tryz.func133, Tryz.ntmps133
  go_wp2
  go_end0
  exact ⟨rfl, rfl⟩

/-- one more, in a file's words -/
theorem add_any (w : World) {b : Nat} {c : Array Value} {ws : List Wr} {x : Wr} (hb : w.heap[b]? = some (.cells c 148 (0, 0))) (hs : c.size = 6) (h3 : c[3]? = some (ptr (hd ws none))) (h4 : c[4]? = some (ptr (lst none ws))) (h5 : c[5]? = some (.int .i64 ws.length))
    (hseg : Seg w none ws none) (hx : WrAt w x none none) (hnd : ((ws ++ [x]).map (·.b)).Nodup) (hlen : ws.length ≤ 100000) :
    Calls Tryz.prog 133 #[.pointer (some ⟨b, 3, none⟩), .pointer (some ⟨x.b, 0, none⟩)] w fun e w' => e = .returned (.tuple #[]) ∧
      w'.heap[b]? = some (.cells (((c.setIfInBounds 3 (ptr (hd (ws ++ [x]) none))).setIfInBounds 4 (ptr (some x.b))).setIfInBounds 5 (.int .i64 ((ws.length : Int) + 1))) 148 (0, 0)) ∧
      Seg w' none (ws ++ [x]) none ∧ Fr (fun k => k = b ∨ ∃ y ∈ ws ++ [x], y.b = k) w w' := by
  have hbx : b ≠ x.b := block_ne hb hx (by decide)
  have hndx : ∀ y ∈ ws, y.b ≠ x.b := by
    intro y hy e
    rw [List.map_append, List.nodup_append] at hnd
    exact hnd.2.2 y.b (List.mem_map.2 ⟨y, hy, rfl⟩) x.b (by simp) e
  by_cases hn : ws = []
  · subst hn
    refine (add_nil w b x.b 0 _ hbx ((cell_at hb 4).trans h4) ((cell_at hb 5).trans h5) ((cell_at hb 3).trans h3) (free_at hb 3) (free_at hb 4) (free_at hb 5) (cell_at hx 4) (free_at hx 4) (by omega) (by omega)).mono ?_
    rintro e w' ⟨rfl, rfl⟩
    have q : (w.setCell ⟨x.b, 4, none⟩ (.pointer none)).heap[b]? = some (.cells c 148 (0, 0)) := old_set hb _ hbx _
    refine ⟨rfl, set_at (set_at (set_at q _ _) _ _) _ _, ⟨?_, trivial⟩, ?_⟩
    · unfold WrAt
      rw [Below.heap_setCell _ _ _ _ hbx.symm, Below.heap_setCell _ _ _ _ hbx.symm, Below.heap_setCell _ _ _ _ hbx.symm, set_at hx]
      rfl
    · have f1 : Fr (fun k => k = b ∨ ∃ y ∈ [] ++ [x], y.b = k) w (w.setCell ⟨x.b, 4, none⟩ (.pointer none)) := .only ((Only.refl x.b w).setCell 4 _) (.inr ⟨x, by simp, rfl⟩)
      exact f1.trans (.only (((((Only.refl b _).setCell 3 _).setCell 4 _).setCell 5 _)) (.inl rfl))
  · obtain ⟨l, z, rfl⟩ : ∃ l z, ws = l ++ [z] := ⟨ws.dropLast, ws.getLast hn, (List.dropLast_concat_getLast hn).symm⟩
    have hz : WrAt w z (lst none l) none := by
      rw [seg_app] at hseg
      exact hseg.2.1
    have hbz : b ≠ z.b := block_ne hb hz (by decide)
    have hxz : x.b ≠ z.b := fun e => hndx z (by simp) e.symm
    rw [lst_snoc] at h4
    refine (add_some w b x.b z.b _ _ _ hbx hbz hxz ((cell_at hb 4).trans h4) ((cell_at hb 5).trans h5) (free_at hb 4) (free_at hb 5) (cell_at hx 4) (free_at hx 4) (cell_at hz 5) (free_at hz 5) (by omega) (by omega)).mono ?_
    rintro e w' ⟨rfl, rfl⟩
    have q : ((w.setCell ⟨x.b, 4, none⟩ (ptr (some z.b))).setCell ⟨z.b, 5, none⟩ (ptr (some x.b))).heap[b]? = some (.cells c 148 (0, 0)) := old_set (old_set hb _ hbx _) _ hbz _
    have e3 : c.setIfInBounds 3 (ptr (hd (l ++ [z] ++ [x]) none)) = c := by
      have e1 : hd (l ++ [z] ++ [x]) none = hd (l ++ [z]) none := by rw [List.append_assoc, hd_app, hd_app]; exact (hd_app l [z] none).symm
      rw [e1]
      apply Array.ext_getElem?
      intro i
      rw [Array.getElem?_setIfInBounds]
      by_cases hi : 3 = i
      · subst hi
        rw [if_pos rfl, if_pos (by omega), h3]
      · rw [if_neg hi]
    have hseg1 : Seg (w.setCell ⟨x.b, 4, none⟩ (ptr (some z.b))) none (l ++ [z]) none := seg_keep hseg (fun y hy => Below.heap_setCell _ _ _ _ (hndx y hy))
    have hseg2 : Seg ((w.setCell ⟨x.b, 4, none⟩ (ptr (some z.b))).setCell ⟨z.b, 5, none⟩ (ptr (some x.b))) none (l ++ [z]) (some x.b) := seg_next hseg1 (by
      intro y hy e
      rw [List.map_append, List.map_append, List.nodup_append] at hnd
      have h1 := (List.nodup_append.1 hnd.1).2.2
      exact h1 y.b (List.mem_map.2 ⟨y, hy, rfl⟩) z.b (by simp) e)
    have hx2 : WrAt ((w.setCell ⟨x.b, 4, none⟩ (ptr (some z.b))).setCell ⟨z.b, 5, none⟩ (ptr (some x.b))) x (some z.b) none := by
      unfold WrAt
      rw [Below.heap_setCell _ _ _ _ hxz, set_at hx]
      rfl
    refine ⟨rfl, ?_, ?_, ?_⟩
    · rw [e3]
      have := set_at (set_at q 4 (ptr (some x.b))) 5 (.int .i64 (((l ++ [z]).length : Int) + 1))
      exact this
    · refine seg_keep (w := (w.setCell ⟨x.b, 4, none⟩ (ptr (some z.b))).setCell ⟨z.b, 5, none⟩ (ptr (some x.b))) ?_ ?_
      · rw [seg_app]
        exact ⟨hseg2, by rw [lst_snoc]; exact ⟨hx2, trivial⟩⟩
      · intro y hy
        have : y.b ≠ b := by
          rcases List.mem_append.1 hy with hy | hy
          · obtain ⟨_, _, h⟩ := seg_mem hseg y hy
            exact (block_ne hb h (by decide)).symm
          · obtain rfl : y = x := by simpa using hy
            exact hbx.symm
        exact (Below.heap_setCell _ _ _ _ this).trans (Below.heap_setCell _ _ _ _ this)
    · have f1 : Fr (fun k => k = b ∨ ∃ y ∈ l ++ [z] ++ [x], y.b = k) w (w.setCell ⟨x.b, 4, none⟩ (ptr (some z.b))) := .only ((Only.refl x.b w).setCell 4 _) (.inr ⟨x, by simp, rfl⟩)
      have f2 : Fr (fun k => k = b ∨ ∃ y ∈ l ++ [z] ++ [x], y.b = k) (w.setCell ⟨x.b, 4, none⟩ (ptr (some z.b))) ((w.setCell ⟨x.b, 4, none⟩ (ptr (some z.b))).setCell ⟨z.b, 5, none⟩ (ptr (some x.b))) := .only ((Only.refl z.b _).setCell 5 _) (.inr ⟨z, by simp, rfl⟩)
      exact (f1.trans f2).trans (.only ((((Only.refl b _).setCell 4 _).setCell 5 _)) (.inl rfl))

set_option maxRecDepth 100000 in
theorem drop_nn (w : World) (b x : Nat) (n : Int) (u u' : Value) (hbx : b ≠ x) (c3 : w.cell? ⟨b, 3, none⟩ = some u) (c4 : w.cell? ⟨b, 4, none⟩ = some u') (c5 : w.cell? ⟨b, 5, none⟩ = some (.int .i64 n))
    (f3 : w.frozen? ⟨b, 3, none⟩ = false) (f4 : w.frozen? ⟨b, 4, none⟩ = false) (f5 : w.frozen? ⟨b, 5, none⟩ = false) (x4 : w.cell? ⟨x, 4, none⟩ = some (.pointer none)) (x5 : w.cell? ⟨x, 5, none⟩ = some (.pointer none)) (h0 : 1 ≤ n) (h1 : n ≤ 100000) :
    Calls Tryz.prog 134 #[.pointer (some ⟨b, 3, none⟩), .pointer (some ⟨x, 0, none⟩)] w fun e w' => e = .returned (.tuple #[]) ∧
      w' = ((w.setCell ⟨b, 3, none⟩ (.pointer none)).setCell ⟨b, 4, none⟩ (.pointer none)).setCell ⟨b, 5, none⟩ (.int .i64 (n - 1)) := by
  have hxb : x ≠ b := fun e => hbx e.symm
  go_enter Tryz.func134, Tryz.ntmps134
  go_wp2
  go_end0
  exact ⟨rfl, rfl⟩

set_option maxRecDepth 100000 in
theorem drop_nz (w : World) (b x z : Nat) (n : Int) (u u' : Value) (hbx : b ≠ x) (hbz : b ≠ z) (hxz : x ≠ z) (c3 : w.cell? ⟨b, 3, none⟩ = some u) (c5 : w.cell? ⟨b, 5, none⟩ = some (.int .i64 n))
    (f3 : w.frozen? ⟨b, 3, none⟩ = false) (f5 : w.frozen? ⟨b, 5, none⟩ = false) (x4 : w.cell? ⟨x, 4, none⟩ = some (.pointer none)) (x5 : w.cell? ⟨x, 5, none⟩ = some (.pointer (some ⟨z, 0, none⟩))) (z4 : w.cell? ⟨z, 4, none⟩ = some u') (k4 : w.frozen? ⟨z, 4, none⟩ = false) (h0 : 1 ≤ n) (h1 : n ≤ 100000) :
    Calls Tryz.prog 134 #[.pointer (some ⟨b, 3, none⟩), .pointer (some ⟨x, 0, none⟩)] w fun e w' => e = .returned (.tuple #[]) ∧
      ∃ k, w' = (((w.setCell ⟨b, 3, none⟩ (.pointer (some ⟨z, 0, none⟩))).drewN k).setCell ⟨z, 4, none⟩ (.pointer none)).setCell ⟨b, 5, none⟩ (.int .i64 (n - 1)) := by
  have hxb : x ≠ b := fun e => hbx e.symm
  have hzb : z ≠ b := fun e => hbz e.symm
  have hzx : z ≠ x := fun e => hxz e.symm
  go_enter Tryz.func134, Tryz.ntmps134
  go_wp2
  go_region
  go_wp2
  go_end0
  exact ⟨rfl, _, rfl⟩

set_option maxRecDepth 100000 in
theorem drop_yn (w : World) (b x y : Nat) (n : Int) (u u' : Value) (hbx : b ≠ x) (hby : b ≠ y) (hxy : x ≠ y) (c4 : w.cell? ⟨b, 4, none⟩ = some u) (c5 : w.cell? ⟨b, 5, none⟩ = some (.int .i64 n))
    (f4 : w.frozen? ⟨b, 4, none⟩ = false) (f5 : w.frozen? ⟨b, 5, none⟩ = false) (x4 : w.cell? ⟨x, 4, none⟩ = some (.pointer (some ⟨y, 0, none⟩))) (x5 : w.cell? ⟨x, 5, none⟩ = some (.pointer none)) (y5 : w.cell? ⟨y, 5, none⟩ = some u') (k5 : w.frozen? ⟨y, 5, none⟩ = false) (h0 : 1 ≤ n) (h1 : n ≤ 100000) :
    Calls Tryz.prog 134 #[.pointer (some ⟨b, 3, none⟩), .pointer (some ⟨x, 0, none⟩)] w fun e w' => e = .returned (.tuple #[]) ∧
      ∃ k, w' = (((w.drewN k).setCell ⟨y, 5, none⟩ (.pointer none)).setCell ⟨b, 4, none⟩ (.pointer (some ⟨y, 0, none⟩))).setCell ⟨b, 5, none⟩ (.int .i64 (n - 1)) := by
  have hxb : x ≠ b := fun e => hbx e.symm
  have hyb : y ≠ b := fun e => hby e.symm
  have hyx : y ≠ x := fun e => hxy e.symm
  go_enter Tryz.func134, Tryz.ntmps134
  go_wp2
  go_region
  go_wp2
  go_end0
  exact ⟨rfl, _, rfl⟩

set_option maxRecDepth 100000 in
theorem drop_yz (w : World) (b x y z : Nat) (n : Int) (u u' : Value) (hbx : b ≠ x) (hby : b ≠ y) (hbz : b ≠ z) (hxy : x ≠ y) (hxz : x ≠ z) (hyz : y ≠ z) (c5 : w.cell? ⟨b, 5, none⟩ = some (.int .i64 n))
    (f5 : w.frozen? ⟨b, 5, none⟩ = false) (x4 : w.cell? ⟨x, 4, none⟩ = some (.pointer (some ⟨y, 0, none⟩))) (x5 : w.cell? ⟨x, 5, none⟩ = some (.pointer (some ⟨z, 0, none⟩))) (y5 : w.cell? ⟨y, 5, none⟩ = some u) (k5 : w.frozen? ⟨y, 5, none⟩ = false) (z4 : w.cell? ⟨z, 4, none⟩ = some u') (k4 : w.frozen? ⟨z, 4, none⟩ = false) (h0 : 1 ≤ n) (h1 : n ≤ 100000) :
    Calls Tryz.prog 134 #[.pointer (some ⟨b, 3, none⟩), .pointer (some ⟨x, 0, none⟩)] w fun e w' => e = .returned (.tuple #[]) ∧
      ∃ k j, w' = ((((w.drewN k).setCell ⟨y, 5, none⟩ (.pointer (some ⟨z, 0, none⟩))).drewN j).setCell ⟨z, 4, none⟩ (.pointer (some ⟨y, 0, none⟩))).setCell ⟨b, 5, none⟩ (.int .i64 (n - 1)) := by
  have hxb : x ≠ b := fun e => hbx e.symm
  have hyb : y ≠ b := fun e => hby e.symm
  have hzb : z ≠ b := fun e => hbz e.symm
  have hyx : y ≠ x := fun e => hxy e.symm
  have hzx : z ≠ x := fun e => hxz e.symm
  have hzy : z ≠ y := fun e => hyz e.symm
  go_enter Tryz.func134, Tryz.ntmps134
  go_wp2
  go_region
  go_wp2
  go_region
  go_wp2
  go_end0
  exact ⟨rfl, _, _, rfl⟩

theorem map_split {l1 l2 : List Wr} {x : Wr} (h : ((l1 ++ x :: l2).map (·.b)).Nodup) : (∀ y ∈ l1 ++ l2, y.b ≠ x.b) ∧ ((l1 ++ l2).map (·.b)).Nodup := by
  rw [List.map_append, List.map_cons] at h
  have hp : (l1.map (·.b) ++ x.b :: l2.map (·.b)).Perm (x.b :: (l1.map (·.b) ++ l2.map (·.b))) := List.perm_middle
  have h2 := hp.nodup_iff.1 h
  rw [List.nodup_cons, ← List.map_append] at h2
  refine ⟨fun y hy e => h2.1 (e ▸ List.mem_map.2 ⟨y, hy, rfl⟩), h2.2⟩

theorem cells_set_same {c : Array Value} {i : Nat} {v : Value} (h : c[i]? = some v) : c.setIfInBounds i v = c := by
  apply Array.ext_getElem?
  intro k
  rw [Array.getElem?_setIfInBounds]
  by_cases hi : i = k
  · subst hi
    rw [if_pos rfl, if_pos (Array.getElem?_eq_some_iff.1 h).1, h]
  · rw [if_neg hi]

/-- what stands behind a drop -/
structure Dropped (w w' : World) (b : Nat) (c : Array Value) (l1 l2 : List Wr) (x : Wr) (n : Nat) : Prop where
  blk : w'.heap[b]? = some (.cells (((c.setIfInBounds 3 (ptr (hd (l1 ++ l2) none))).setIfInBounds 4 (ptr (lst none (l1 ++ l2)))).setIfInBounds 5 (.int .i64 ((n : Int) - 1))) 148 (0, 0))
  seg : Seg w' none (l1 ++ l2) none
  fr : Fr (fun k => k = b ∨ ∃ y ∈ l1 ++ l2, y.b = k) w w'

/-- one less, in a file's words -/
theorem drop_any (w : World) {b : Nat} {c : Array Value} {l1 l2 : List Wr} {x : Wr} {n : Nat} (hb : w.heap[b]? = some (.cells c 148 (0, 0))) (h3 : c[3]? = some (ptr (hd (l1 ++ x :: l2) none))) (h4 : c[4]? = some (ptr (lst none (l1 ++ x :: l2)))) (h5 : c[5]? = some (.int .i64 n))
    (hseg : Seg w none (l1 ++ x :: l2) none) (hnd : ((l1 ++ x :: l2).map (·.b)).Nodup) (h0 : 1 ≤ n) (hlen : n ≤ 100000) :
    Calls Tryz.prog 134 #[.pointer (some ⟨b, 3, none⟩), .pointer (some ⟨x.b, 0, none⟩)] w fun e w' => e = .returned (.tuple #[]) ∧ Dropped w w' b c l1 l2 x n := by
  obtain ⟨hne, hnd2⟩ := map_split hnd
  have hs := (seg_app _ _ _ _).1 hseg
  have hx : WrAt w x (lst none l1) (hd l2 none) := hs.2.1
  have hs1 : Seg w none l1 (some x.b) := hs.1
  have hs2 : Seg w (some x.b) l2 none := hs.2.2
  have hbw : ∀ y ∈ l1 ++ x :: l2, b ≠ y.b := fun y hy => by
    obtain ⟨_, _, h⟩ := seg_mem hseg y hy
    exact block_ne hb h (by decide)
  have hbx : b ≠ x.b := hbw x (by simp)
  have hbw2 : ∀ y ∈ l1 ++ l2, y.b ≠ b := fun y hy => (hbw y ((List.mem_append.1 hy).elim (fun h => List.mem_append_left _ h) (fun h => List.mem_append_right _ (List.mem_cons_of_mem _ h)))).symm
  rcases List.eq_nil_or_concat l1 with rfl | ⟨l, y, rfl⟩
  · cases l2 with
    | nil =>
      refine (drop_nn w b x.b n _ _ hbx ((cell_at hb 3).trans h3) ((cell_at hb 4).trans h4) ((cell_at hb 5).trans h5) (free_at hb 3) (free_at hb 4) (free_at hb 5) ((cell_at hx 4).trans rfl) ((cell_at hx 5).trans rfl) (by omega) (by omega)).mono ?_
      rintro e w' ⟨rfl, rfl⟩
      exact ⟨rfl, set_at (set_at (set_at hb _ _) _ _) _ _, trivial, .only ((((Only.refl b w).setCell 3 _).setCell 4 _).setCell 5 _) (.inl rfl)⟩
    | cons z r =>
      have hz : WrAt w z (some x.b) (hd r none) := hs2.1
      have hbz : b ≠ z.b := hbw z (by simp)
      have hxz : x.b ≠ z.b := (hne z (by simp)).symm
      refine (drop_nz w b x.b z.b n _ _ hbx hbz hxz ((cell_at hb 3).trans h3) ((cell_at hb 5).trans h5) (free_at hb 3) (free_at hb 5) ((cell_at hx 4).trans rfl) ((cell_at hx 5).trans rfl) (cell_at hz 4) (free_at hz 4) (by omega) (by omega)).mono ?_
      rintro e w' ⟨rfl, k, rfl⟩
      have q1 : ((w.setCell ⟨b, 3, none⟩ (ptr (some z.b))).drewN k).heap[b]? = some (.cells (c.setIfInBounds 3 (ptr (some z.b))) 148 (0, 0)) := set_at hb _ _
      have q2 : (((w.setCell ⟨b, 3, none⟩ (ptr (some z.b))).drewN k).setCell ⟨z.b, 4, none⟩ (ptr none)).heap[b]? = some (.cells (c.setIfInBounds 3 (ptr (some z.b))) 148 (0, 0)) := old_set q1 _ hbz _
      have s1 : Seg ((w.setCell ⟨b, 3, none⟩ (ptr (some z.b))).drewN k) (some x.b) (z :: r) none := seg_keep hs2 (fun y hy => Below.heap_setCell _ _ _ _ (hbw2 y hy))
      have s2 : Seg (((w.setCell ⟨b, 3, none⟩ (ptr (some z.b))).drewN k).setCell ⟨z.b, 4, none⟩ (ptr none)) none (z :: r) none := seg_prev (p' := none) s1 (fun y hy e => by
        simp only [List.nil_append, List.map_cons, List.nodup_cons] at hnd2
        exact hnd2.1 (e ▸ List.mem_map.2 ⟨y, hy, rfl⟩))
      refine ⟨rfl, ?_, seg_keep s2 (fun y hy => Below.heap_setCell _ _ _ _ (hbw2 y hy)), ?_⟩
      · have e4 : (c.setIfInBounds 3 (ptr (some z.b))).setIfInBounds 4 (ptr (lst none ([] ++ z :: r))) = c.setIfInBounds 3 (ptr (some z.b)) := cells_set_same (by
          rw [Array.getElem?_setIfInBounds, if_neg (by decide)]; exact h4)
        show (World.setCell _ _ _).heap[b]? = some (.cells (((c.setIfInBounds 3 (ptr (some z.b))).setIfInBounds 4 (ptr (lst none ([] ++ z :: r)))).setIfInBounds 5 _) _ _)
        rw [e4]
        exact set_at q2 _ _
      · have f1 : Fr (fun j => j = b ∨ ∃ y ∈ [] ++ z :: r, y.b = j) w ((w.setCell ⟨b, 3, none⟩ (ptr (some z.b))).drewN k) := .only (((Only.refl b w).setCell 3 _).drewN k) (.inl rfl)
        exact (f1.trans (.only ((Only.refl z.b _).setCell 4 _) (.inr ⟨z, by simp, rfl⟩))).trans (.only ((Only.refl b _).setCell 5 _) (.inl rfl))
  · rw [List.concat_eq_append] at *
    have hy : WrAt w y (lst none l) (some x.b) := by
      rw [seg_app] at hs1
      exact hs1.2.1
    have hby : b ≠ y.b := hbw y (by simp)
    have hxy : x.b ≠ y.b := (hne y (by simp)).symm
    have hyl : ∀ v ∈ l, v.b ≠ y.b := fun v hv e => by
      rw [List.map_append, List.nodup_append] at hnd2
      have := hnd2.1
      rw [List.map_append, List.nodup_append] at this
      exact this.2.2 v.b (List.mem_map.2 ⟨v, hv, rfl⟩) y.b (by simp) e
    have hyr : ∀ v ∈ l2, v.b ≠ y.b := fun v hv e => by
      rw [List.map_append, List.nodup_append] at hnd2
      exact hnd2.2.2 y.b (by simp) v.b (List.mem_map.2 ⟨v, hv, rfl⟩) e.symm
    have h3' : c[3]? = some (ptr (hd (l ++ [y] ++ l2) none)) := by
      rw [h3, hd_app, hd_app, hd_app, hd_app]; rfl
    cases l2 with
    | nil =>
      rw [lst_snoc] at hx
      refine (drop_yn w b x.b y.b n _ _ hbx hby hxy ((cell_at hb 4).trans h4) ((cell_at hb 5).trans h5) (free_at hb 4) (free_at hb 5) ((cell_at hx 4).trans rfl) ((cell_at hx 5).trans rfl) (cell_at hy 5) (free_at hy 5) (by omega) (by omega)).mono ?_
      rintro e w' ⟨rfl, k, rfl⟩
      have q1 : ((w.drewN k).setCell ⟨y.b, 5, none⟩ (ptr none)).heap[b]? = some (.cells c 148 (0, 0)) := old_set (w := w.drewN k) hb _ hby _
      have s1 : Seg ((w.drewN k).setCell ⟨y.b, 5, none⟩ (ptr none)) none (l ++ [y]) none := seg_next (w := w.drewN k) (n' := none) (seg_keep hs1 (fun _ _ => rfl)) hyl
      refine ⟨rfl, ?_, ?_, ?_⟩
      · rw [List.append_nil] at h3' ⊢
        rw [cells_set_same h3', lst_snoc]
        exact set_at (set_at q1 _ _) _ _
      · rw [List.append_nil]
        exact seg_keep s1 (fun v hv => (Below.heap_setCell _ _ _ _ (hbw2 v (List.mem_append_left _ hv))).trans (Below.heap_setCell _ _ _ _ (hbw2 v (List.mem_append_left _ hv))))
      · have f1 : Fr (fun j => j = b ∨ ∃ v ∈ l ++ [y] ++ [], v.b = j) w ((w.drewN k).setCell ⟨y.b, 5, none⟩ (ptr none)) := .only (((Only.refl y.b w).drewN k).setCell 5 _) (.inr ⟨y, by simp, rfl⟩)
        exact f1.trans (.only (((Only.refl b _).setCell 4 _).setCell 5 _) (.inl rfl))
    | cons z r =>
      rw [lst_snoc] at hx
      have hz : WrAt w z (some x.b) (hd r none) := hs2.1
      have hbz : b ≠ z.b := hbw z (by simp)
      have hxz : x.b ≠ z.b := (hne z (by simp)).symm
      have hyz : y.b ≠ z.b := (hyr z (by simp)).symm
      refine (drop_yz w b x.b y.b z.b n _ _ hbx hby hbz hxy hxz hyz ((cell_at hb 5).trans h5) (free_at hb 5) ((cell_at hx 4).trans rfl) ((cell_at hx 5).trans rfl) (cell_at hy 5) (free_at hy 5) (cell_at hz 4) (free_at hz 4) (by omega) (by omega)).mono ?_
      rintro e w' ⟨rfl, k, j, rfl⟩
      have q1 : (((w.drewN k).setCell ⟨y.b, 5, none⟩ (ptr (some z.b))).drewN j).heap[b]? = some (.cells c 148 (0, 0)) := old_set (w := w.drewN k) hb _ hby _
      have q2 : ((((w.drewN k).setCell ⟨y.b, 5, none⟩ (ptr (some z.b))).drewN j).setCell ⟨z.b, 4, none⟩ (ptr (some y.b))).heap[b]? = some (.cells c 148 (0, 0)) := old_set q1 _ hbz _
      have s1 : Seg ((w.drewN k).setCell ⟨y.b, 5, none⟩ (ptr (some z.b))) none (l ++ [y]) (some z.b) := seg_next (w := w.drewN k) (seg_keep hs1 (fun _ _ => rfl)) hyl
      have t1 : Seg (((w.drewN k).setCell ⟨y.b, 5, none⟩ (ptr (some z.b))).drewN j) (some x.b) (z :: r) none := seg_keep hs2 (fun v hv => Below.heap_setCell _ _ _ _ (hyr v hv))
      have t2 : Seg ((((w.drewN k).setCell ⟨y.b, 5, none⟩ (ptr (some z.b))).drewN j).setCell ⟨z.b, 4, none⟩ (ptr (some y.b))) (some y.b) (z :: r) none := seg_prev t1 (fun v hv e => by
        rw [List.map_append, List.nodup_append] at hnd2
        have := hnd2.2.1
        rw [List.map_cons, List.nodup_cons] at this
        exact this.1 (e ▸ List.mem_map.2 ⟨v, hv, rfl⟩))
      have s2 : Seg ((((w.drewN k).setCell ⟨y.b, 5, none⟩ (ptr (some z.b))).drewN j).setCell ⟨z.b, 4, none⟩ (ptr (some y.b))) none (l ++ [y]) (some z.b) := seg_keep s1 (fun v hv => Below.heap_setCell _ _ _ _ (fun e => by
        rw [List.map_append, List.nodup_append] at hnd2
        exact hnd2.2.2 v.b (List.mem_map.2 ⟨v, hv, rfl⟩) z.b (by simp) e))
      refine ⟨rfl, ?_, ?_, ?_⟩
      · have h4' : c[4]? = some (ptr (lst none (l ++ [y] ++ z :: r))) := by
          rw [h4, lst_app (l ++ [y]) (x :: z :: r), lst_app (l ++ [y]) (z :: r)]; rfl
        rw [cells_set_same h3', cells_set_same h4']
        exact set_at q2 _ _
      · refine seg_keep (w := (((w.drewN k).setCell ⟨y.b, 5, none⟩ (ptr (some z.b))).drewN j).setCell ⟨z.b, 4, none⟩ (ptr (some y.b))) ?_ (fun v hv => Below.heap_setCell _ _ _ _ (hbw2 v hv))
        rw [seg_app]
        exact ⟨s2, by rw [lst_snoc]; exact t2⟩
      · have f1 : Fr (fun i => i = b ∨ ∃ v ∈ l ++ [y] ++ z :: r, v.b = i) w (((w.drewN k).setCell ⟨y.b, 5, none⟩ (ptr (some z.b))).drewN j) := .only ((((Only.refl y.b w).drewN k).setCell 5 _).drewN j) (.inr ⟨y, by simp, rfl⟩)
        exact (f1.trans (.only ((Only.refl z.b _).setCell 4 _) (.inr ⟨z, by simp, rfl⟩))).trans (.only ((Only.refl b _).setCell 5 _) (.inl rfl))

end Go.Proofs.YtbkngnjkaledlaaGreat.P4
