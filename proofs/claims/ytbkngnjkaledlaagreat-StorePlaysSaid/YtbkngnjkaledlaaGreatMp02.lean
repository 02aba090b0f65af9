/-
  Texts of the proof of SaidPlay8b.
-/
import Derived.Test.YtbkngnjkaledlaaGreatMp01
import Derived.Deep.AppendLies
import Derived.Deep.RegionLaw
set_option maxHeartbeats 8000000
set_option maxRecDepth 100000
namespace Go.Proofs.YtbkngnjkaledlaaGreat.P4
open Go Go.RowKit Go.Lib P3
theorem add_nil (w : World) (b x : Nat) (n : Int) (u : Value) (hbx : b ≠ x) (c4 : w.cell? ⟨b, 4, none⟩ = some (.pointer none)) (c5 : w.cell? ⟨b, 5, none⟩ = some (.int .i64 n)) (c3 : w.cell? ⟨b, 3, none⟩ = some (.pointer none))
  (f3 : w.frozen? ⟨b, 3, none⟩ = false) (f4 : w.frozen? ⟨b, 4, none⟩ = false) (f5 : w.frozen? ⟨b, 5, none⟩ = false) (x4 : w.cell? ⟨x, 4, none⟩ = some u) (g4 : w.frozen? ⟨x, 4, none⟩ = false) (h0 : 0 ≤ n) (h1 : n ≤ 100000) :
  Calls Tryz.prog 133 #[.pointer (some ⟨b, 3, none⟩), .pointer (some ⟨x, 0, none⟩)] w fun e w' => e = .returned (.tuple #[]) ∧
   w' = (((w.setCell ⟨x, 4, none⟩ (.pointer none)).setCell ⟨b, 3, none⟩ (.pointer (some ⟨x, 0, none⟩))).setCell ⟨b, 4, none⟩ (.pointer (some ⟨x, 0, none⟩))).setCell ⟨b, 5, none⟩ (.int .i64 (n + 1)) := by
 have hxb : x ≠ b := fun e => hbx e.symm
 go_enter Tryz.func133, Tryz.ntmps133
 go_wp2
 go_end0
 exact ⟨rfl, rfl⟩
theorem add_some (w : World) (b x z : Nat) (n : Int) (u u' : Value) (hbx : b ≠ x) (hbz : b ≠ z) (hxz : x ≠ z) (c4 : w.cell? ⟨b, 4, none⟩ = some (.pointer (some ⟨z, 0, none⟩))) (c5 : w.cell? ⟨b, 5, none⟩ = some (.int .i64 n))
  (f4 : w.frozen? ⟨b, 4, none⟩ = false) (f5 : w.frozen? ⟨b, 5, none⟩ = false) (x4 : w.cell? ⟨x, 4, none⟩ = some u) (g4 : w.frozen? ⟨x, 4, none⟩ = false) (z5 : w.cell? ⟨z, 5, none⟩ = some u') (k5 : w.frozen? ⟨z, 5, none⟩ = false) (h0 : 0 ≤ n) (h1 : n ≤ 100000) :
  Calls Tryz.prog 133 #[.pointer (some ⟨b, 3, none⟩), .pointer (some ⟨x, 0, none⟩)] w fun e w' => e = .returned (.tuple #[]) ∧
   w' = (((w.setCell ⟨x, 4, none⟩ (.pointer (some ⟨z, 0, none⟩))).setCell ⟨z, 5, none⟩ (.pointer (some ⟨x, 0, none⟩))).setCell ⟨b, 4, none⟩ (.pointer (some ⟨x, 0, none⟩))).setCell ⟨b, 5, none⟩ (.int .i64 (n + 1)) := by
 have hxb : x ≠ b := fun e => hbx e.symm
 have hzb : z ≠ b := fun e => hbz e.symm
 have hzx : z ≠ x := fun e => hxz e.symm
 go_enter Tryz.func133, Tryz.ntmps133
 go_wp2
 go_end0
 exact ⟨rfl, rfl⟩
theorem add_any (w : World) {b : Nat} {c : Array Value} {ws : List Wr} {x : Wr} (hb : w.heap[b]? = some (.cells c 148 (0, 0))) (hs : c.size = 6) (h3 : c[3]? = some (ptr (hd ws none))) (h4 : c[4]? = some (ptr (lst none ws))) (h5 : c[5]? = some (.int .i64 ws.length))
  (hseg : Seg w none ws none) (hx : WrAt w x none none) (hnd : ((ws ++ [x]).map (·.b)).Nodup) (hlen : ws.length ≤ 100000) :
  Calls Tryz.prog 133 #[.pointer (some ⟨b, 3, none⟩), .pointer (some ⟨x.b, 0, none⟩)] w fun e w' => e = .returned (.tuple #[]) ∧
   w'.heap[b]? = some (.cells (((c.setIfInBounds 3 (ptr (hd (ws ++ [x]) none))).setIfInBounds 4 (ptr (some x.b))).setIfInBounds 5 (.int .i64 ((ws.length : Int) + 1))) 148 (0, 0)) ∧
   Seg w' none (ws ++ [x]) none ∧ Fr (fun k => k = b ∨ ∃ y ∈ ws ++ [x], y.b = k) w w' := by
 have hbx : b ≠ x.b := block_ne hb hx (by decide)
 have hndx : ∀ y ∈ ws, y.b ≠ x.b := by
  intro y hy e
  rw [List.map_append, List.nodup_append] at hnd
  exact hnd.2.2 y.b (List.mem_map.2 ⟨y, hy, rfl⟩) x.b (by simp) e
 by_cases hn : ws = []
 ·subst hn
  refine (add_nil w b x.b 0 _ hbx ((cell_at hb 4).trans h4) ((cell_at hb 5).trans h5) ((cell_at hb 3).trans h3) (free_at hb 3) (free_at hb 4) (free_at hb 5) (cell_at hx 4) (free_at hx 4) (by omega) (by omega)).mono ?_
  rintro e w' ⟨rfl, rfl⟩
  have q : (w.setCell ⟨x.b, 4, none⟩ (.pointer none)).heap[b]? = some (.cells c 148 (0, 0)) := old_set hb _ hbx _
  refine ⟨rfl, set_at (set_at (set_at q _ _) _ _) _ _, ⟨?_, trivial⟩, ?_⟩
  ·unfold WrAt
   rw [Below.heap_setCell _ _ _ _ hbx.symm, Below.heap_setCell _ _ _ _ hbx.symm, Below.heap_setCell _ _ _ _ hbx.symm, set_at hx]
   rfl
  ·have f1 : Fr (fun k => k = b ∨ ∃ y ∈ [] ++ [x], y.b = k) w (w.setCell ⟨x.b, 4, none⟩ (.pointer none)) := .only ((Only.refl x.b w).setCell 4 _) (.inr ⟨x, by simp, rfl⟩)
   exact f1.trans (.only (((((Only.refl b _).setCell 3 _).setCell 4 _).setCell 5 _)) (.inl rfl))
 ·obtain ⟨l, z, rfl⟩ : ∃ l z, ws = l ++ [z] := ⟨ws.dropLast, ws.getLast hn, (List.dropLast_concat_getLast hn).symm⟩
  have hz : WrAt w z (lst none l) none := by
   rw [seg_app] at hseg
   exact hseg.2.1
  have hbz : b ≠ z.b := block_ne hb hz (by decide)
  have hxz : x.b ≠ z.b := fun e => hndx z (by simp) e.symm
  rw [lst_snoc] at h4
  refine (add_some w b x.b z.b _ _ _ hbx hbz hxz ((cell_at hb 4).trans h4) ((cell_at hb 5).trans h5) (free_at hb 4) (free_at hb 5) (cell_at hx 4) (free_at hx 4) (cell_at hz 5) (free_at hz 5) (by omega) (by omega)).mono ?_
  rintro e w' ⟨rfl, rfl⟩
  have q : ((w.setCell ⟨x.b, 4, none⟩ (ptr (some z.b))).setCell ⟨z.b, 5, none⟩ (ptr (some x.b))).heap[b]? = some (.cells c 148 (0, 0)) := old_set (old_set hb _ hbx _) _ hbz _
  have e3 : c.setIfInBounds 3 (ptr (hd (l ++ [z] ++ [x]) none)) = c := by
   have e1 : hd (l ++ [z] ++ [x]) none = hd (l ++ [z]) none := by rw [List.append_assoc, hd_app, hd_app]; exact (hd_app l [z] none).symm
   rw [e1]
   apply Array.ext_getElem?
   intro i
   rw [Array.getElem?_setIfInBounds]
   by_cases hi : 3 = i
   ·subst hi
    rw [if_pos rfl, if_pos (by omega), h3]
   ·rw [if_neg hi]
  have hseg1 : Seg (w.setCell ⟨x.b, 4, none⟩ (ptr (some z.b))) none (l ++ [z]) none := seg_keep hseg (fun y hy => Below.heap_setCell _ _ _ _ (hndx y hy))
  have hseg2 : Seg ((w.setCell ⟨x.b, 4, none⟩ (ptr (some z.b))).setCell ⟨z.b, 5, none⟩ (ptr (some x.b))) none (l ++ [z]) (some x.b) := seg_next hseg1 (by
   intro y hy e
   rw [List.map_append, List.map_append, List.nodup_append] at hnd
   have h1 := (List.nodup_append.1 hnd.1).2.2
   exact h1 y.b (List.mem_map.2 ⟨y, hy, rfl⟩) z.b (by simp) e)
  have hx2 : WrAt ((w.setCell ⟨x.b, 4, none⟩ (ptr (some z.b))).setCell ⟨z.b, 5, none⟩ (ptr (some x.b))) x (some z.b) none := by
   unfold WrAt
   rw [Below.heap_setCell _ _ _ _ hxz, set_at hx]
   rfl
  refine ⟨rfl, ?_, ?_, ?_⟩
  ·rw [e3]
   have := set_at (set_at q 4 (ptr (some x.b))) 5 (.int .i64 (((l ++ [z]).length : Int) + 1))
   exact this
  ·refine seg_keep (w := (w.setCell ⟨x.b, 4, none⟩ (ptr (some z.b))).setCell ⟨z.b, 5, none⟩ (ptr (some x.b))) ?_ ?_
   ·rw [seg_app]
    exact ⟨hseg2, by rw [lst_snoc]; exact ⟨hx2, trivial⟩⟩
   ·intro y hy
    have : y.b ≠ b := by
     rcases List.mem_append.1 hy with hy | hy
     ·obtain ⟨_, _, h⟩ := seg_mem hseg y hy
      exact (block_ne hb h (by decide)).symm
     ·obtain rfl : y = x := by simpa using hy
      exact hbx.symm
    exact (Below.heap_setCell _ _ _ _ this).trans (Below.heap_setCell _ _ _ _ this)
  ·have f1 : Fr (fun k => k = b ∨ ∃ y ∈ l ++ [z] ++ [x], y.b = k) w (w.setCell ⟨x.b, 4, none⟩ (ptr (some z.b))) := .only ((Only.refl x.b w).setCell 4 _) (.inr ⟨x, by simp, rfl⟩)
   have f2 : Fr (fun k => k = b ∨ ∃ y ∈ l ++ [z] ++ [x], y.b = k) (w.setCell ⟨x.b, 4, none⟩ (ptr (some z.b))) ((w.setCell ⟨x.b, 4, none⟩ (ptr (some z.b))).setCell ⟨z.b, 5, none⟩ (ptr (some x.b))) := .only ((Only.refl z.b _).setCell 5 _) (.inr ⟨z, by simp, rfl⟩)
   exact (f1.trans f2).trans (.only ((((Only.refl b _).setCell 4 _).setCell 5 _)) (.inl rfl))
theorem drop_nn (w : World) (b x : Nat) (n : Int) (u u' : Value) (hbx : b ≠ x) (c3 : w.cell? ⟨b, 3, none⟩ = some u) (c4 : w.cell? ⟨b, 4, none⟩ = some u') (c5 : w.cell? ⟨b, 5, none⟩ = some (.int .i64 n))
  (f3 : w.frozen? ⟨b, 3, none⟩ = false) (f4 : w.frozen? ⟨b, 4, none⟩ = false) (f5 : w.frozen? ⟨b, 5, none⟩ = false) (x4 : w.cell? ⟨x, 4, none⟩ = some (.pointer none)) (x5 : w.cell? ⟨x, 5, none⟩ = some (.pointer none)) (h0 : 1 ≤ n) (h1 : n ≤ 100000) :
  Calls Tryz.prog 134 #[.pointer (some ⟨b, 3, none⟩), .pointer (some ⟨x, 0, none⟩)] w fun e w' => e = .returned (.tuple #[]) ∧
   w' = ((w.setCell ⟨b, 3, none⟩ (.pointer none)).setCell ⟨b, 4, none⟩ (.pointer none)).setCell ⟨b, 5, none⟩ (.int .i64 (n - 1)) := by
 have hxb : x ≠ b := fun e => hbx e.symm
 go_enter Tryz.func134, Tryz.ntmps134
 go_wp2
 go_end0
 exact ⟨rfl, rfl⟩
theorem drop_nz (w : World) (b x z : Nat) (n : Int) (u u' : Value) (hbx : b ≠ x) (hbz : b ≠ z) (hxz : x ≠ z) (c3 : w.cell? ⟨b, 3, none⟩ = some u) (c5 : w.cell? ⟨b, 5, none⟩ = some (.int .i64 n))
  (f3 : w.frozen? ⟨b, 3, none⟩ = false) (f5 : w.frozen? ⟨b, 5, none⟩ = false) (x4 : w.cell? ⟨x, 4, none⟩ = some (.pointer none)) (x5 : w.cell? ⟨x, 5, none⟩ = some (.pointer (some ⟨z, 0, none⟩))) (z4 : w.cell? ⟨z, 4, none⟩ = some u') (k4 : w.frozen? ⟨z, 4, none⟩ = false) (h0 : 1 ≤ n) (h1 : n ≤ 100000) :
  Calls Tryz.prog 134 #[.pointer (some ⟨b, 3, none⟩), .pointer (some ⟨x, 0, none⟩)] w fun e w' => e = .returned (.tuple #[]) ∧
   ∃ k, w' = (((w.setCell ⟨b, 3, none⟩ (.pointer (some ⟨z, 0, none⟩))).drewN k).setCell ⟨z, 4, none⟩ (.pointer none)).setCell ⟨b, 5, none⟩ (.int .i64 (n - 1)) := by
 have hxb : x ≠ b := fun e => hbx e.symm
 have hzb : z ≠ b := fun e => hbz e.symm
 have hzx : z ≠ x := fun e => hxz e.symm
 go_enter Tryz.func134, Tryz.ntmps134
 go_wp2
 go_region
 go_wp2
 go_end0
 exact ⟨rfl, _, rfl⟩
theorem drop_yn (w : World) (b x y : Nat) (n : Int) (u u' : Value) (hbx : b ≠ x) (hby : b ≠ y) (hxy : x ≠ y) (c4 : w.cell? ⟨b, 4, none⟩ = some u) (c5 : w.cell? ⟨b, 5, none⟩ = some (.int .i64 n))
  (f4 : w.frozen? ⟨b, 4, none⟩ = false) (f5 : w.frozen? ⟨b, 5, none⟩ = false) (x4 : w.cell? ⟨x, 4, none⟩ = some (.pointer (some ⟨y, 0, none⟩))) (x5 : w.cell? ⟨x, 5, none⟩ = some (.pointer none)) (y5 : w.cell? ⟨y, 5, none⟩ = some u') (k5 : w.frozen? ⟨y, 5, none⟩ = false) (h0 : 1 ≤ n) (h1 : n ≤ 100000) :
  Calls Tryz.prog 134 #[.pointer (some ⟨b, 3, none⟩), .pointer (some ⟨x, 0, none⟩)] w fun e w' => e = .returned (.tuple #[]) ∧
   ∃ k, w' = (((w.drewN k).setCell ⟨y, 5, none⟩ (.pointer none)).setCell ⟨b, 4, none⟩ (.pointer (some ⟨y, 0, none⟩))).setCell ⟨b, 5, none⟩ (.int .i64 (n - 1)) := by
 have hxb : x ≠ b := fun e => hbx e.symm
 have hyb : y ≠ b := fun e => hby e.symm
 have hyx : y ≠ x := fun e => hxy e.symm
 go_enter Tryz.func134, Tryz.ntmps134
 go_wp2
 go_region
 go_wp2
 go_end0
 exact ⟨rfl, _, rfl⟩
theorem drop_yz (w : World) (b x y z : Nat) (n : Int) (u u' : Value) (hbx : b ≠ x) (hby : b ≠ y) (hbz : b ≠ z) (hxy : x ≠ y) (hxz : x ≠ z) (hyz : y ≠ z) (c5 : w.cell? ⟨b, 5, none⟩ = some (.int .i64 n))
  (f5 : w.frozen? ⟨b, 5, none⟩ = false) (x4 : w.cell? ⟨x, 4, none⟩ = some (.pointer (some ⟨y, 0, none⟩))) (x5 : w.cell? ⟨x, 5, none⟩ = some (.pointer (some ⟨z, 0, none⟩))) (y5 : w.cell? ⟨y, 5, none⟩ = some u) (k5 : w.frozen? ⟨y, 5, none⟩ = false) (z4 : w.cell? ⟨z, 4, none⟩ = some u') (k4 : w.frozen? ⟨z, 4, none⟩ = false) (h0 : 1 ≤ n) (h1 : n ≤ 100000) :
  Calls Tryz.prog 134 #[.pointer (some ⟨b, 3, none⟩), .pointer (some ⟨x, 0, none⟩)] w fun e w' => e = .returned (.tuple #[]) ∧
   ∃ k j, w' = ((((w.drewN k).setCell ⟨y, 5, none⟩ (.pointer (some ⟨z, 0, none⟩))).drewN j).setCell ⟨z, 4, none⟩ (.pointer (some ⟨y, 0, none⟩))).setCell ⟨b, 5, none⟩ (.int .i64 (n - 1)) := by
 have hxb : x ≠ b := fun e => hbx e.symm
 have hyb : y ≠ b := fun e => hby e.symm
 have hzb : z ≠ b := fun e => hbz e.symm
 have hyx : y ≠ x := fun e => hxy e.symm
 have hzx : z ≠ x := fun e => hxz e.symm
 have hzy : z ≠ y := fun e => hyz e.symm
 go_enter Tryz.func134, Tryz.ntmps134
 go_wp2
 go_region
 go_wp2
 go_region
 go_wp2
 go_end0
 exact ⟨rfl, _, _, rfl⟩
theorem map_split {l1 l2 : List Wr} {x : Wr} (h : ((l1 ++ x :: l2).map (·.b)).Nodup) : (∀ y ∈ l1 ++ l2, y.b ≠ x.b) ∧ ((l1 ++ l2).map (·.b)).Nodup := by
 rw [List.map_append, List.map_cons] at h
 have hp : (l1.map (·.b) ++ x.b :: l2.map (·.b)).Perm (x.b :: (l1.map (·.b) ++ l2.map (·.b))) := List.perm_middle
 have h2 := hp.nodup_iff.1 h
 rw [List.nodup_cons, ← List.map_append] at h2
 refine ⟨fun y hy e => h2.1 (e ▸ List.mem_map.2 ⟨y, hy, rfl⟩), h2.2⟩
theorem cells_set_same {c : Array Value} {i : Nat} {v : Value} (h : c[i]? = some v) : c.setIfInBounds i v = c := by
 apply Array.ext_getElem?
 intro k
 rw [Array.getElem?_setIfInBounds]
 by_cases hi : i = k
 ·subst hi
  rw [if_pos rfl, if_pos (Array.getElem?_eq_some_iff.1 h).1, h]
 ·rw [if_neg hi]
structure Dropped (w w' : World) (b : Nat) (c : Array Value) (l1 l2 : List Wr) (x : Wr) (n : Nat) : Prop where
 blk : w'.heap[b]? = some (.cells (((c.setIfInBounds 3 (ptr (hd (l1 ++ l2) none))).setIfInBounds 4 (ptr (lst none (l1 ++ l2)))).setIfInBounds 5 (.int .i64 ((n : Int) - 1))) 148 (0, 0))
 seg : Seg w' none (l1 ++ l2) none
 fr : Fr (fun k => k = b ∨ ∃ y ∈ l1 ++ l2, y.b = k) w w'
theorem drop_any (w : World) {b : Nat} {c : Array Value} {l1 l2 : List Wr} {x : Wr} {n : Nat} (hb : w.heap[b]? = some (.cells c 148 (0, 0))) (h3 : c[3]? = some (ptr (hd (l1 ++ x :: l2) none))) (h4 : c[4]? = some (ptr (lst none (l1 ++ x :: l2)))) (h5 : c[5]? = some (.int .i64 n))
  (hseg : Seg w none (l1 ++ x :: l2) none) (hnd : ((l1 ++ x :: l2).map (·.b)).Nodup) (h0 : 1 ≤ n) (hlen : n ≤ 100000) :
  Calls Tryz.prog 134 #[.pointer (some ⟨b, 3, none⟩), .pointer (some ⟨x.b, 0, none⟩)] w fun e w' => e = .returned (.tuple #[]) ∧ Dropped w w' b c l1 l2 x n := by
 obtain ⟨hne, hnd2⟩ := map_split hnd
 have hs := (seg_app _ _ _ _).1 hseg
 have hx : WrAt w x (lst none l1) (hd l2 none) := hs.2.1
 have hs1 : Seg w none l1 (some x.b) := hs.1
 have hs2 : Seg w (some x.b) l2 none := hs.2.2
 have hbw : ∀ y ∈ l1 ++ x :: l2, b ≠ y.b := fun y hy => by
  obtain ⟨_, _, h⟩ := seg_mem hseg y hy
  exact block_ne hb h (by decide)
 have hbx : b ≠ x.b := hbw x (by simp)
 have hbw2 : ∀ y ∈ l1 ++ l2, y.b ≠ b := fun y hy => (hbw y ((List.mem_append.1 hy).elim (fun h => List.mem_append_left _ h) (fun h => List.mem_append_right _ (List.mem_cons_of_mem _ h)))).symm
 rcases List.eq_nil_or_concat l1 with rfl | ⟨l, y, rfl⟩
 ·cases l2 with
  | nil =>
   refine (drop_nn w b x.b n _ _ hbx ((cell_at hb 3).trans h3) ((cell_at hb 4).trans h4) ((cell_at hb 5).trans h5) (free_at hb 3) (free_at hb 4) (free_at hb 5) ((cell_at hx 4).trans rfl) ((cell_at hx 5).trans rfl) (by omega) (by omega)).mono ?_
   rintro e w' ⟨rfl, rfl⟩
   exact ⟨rfl, set_at (set_at (set_at hb _ _) _ _) _ _, trivial, .only ((((Only.refl b w).setCell 3 _).setCell 4 _).setCell 5 _) (.inl rfl)⟩
  | cons z r =>
   have hz : WrAt w z (some x.b) (hd r none) := hs2.1
   have hbz : b ≠ z.b := hbw z (by simp)
   have hxz : x.b ≠ z.b := (hne z (by simp)).symm
   refine (drop_nz w b x.b z.b n _ _ hbx hbz hxz ((cell_at hb 3).trans h3) ((cell_at hb 5).trans h5) (free_at hb 3) (free_at hb 5) ((cell_at hx 4).trans rfl) ((cell_at hx 5).trans rfl) (cell_at hz 4) (free_at hz 4) (by omega) (by omega)).mono ?_
   rintro e w' ⟨rfl, k, rfl⟩
   have q1 : ((w.setCell ⟨b, 3, none⟩ (ptr (some z.b))).drewN k).heap[b]? = some (.cells (c.setIfInBounds 3 (ptr (some z.b))) 148 (0, 0)) := set_at hb _ _
   have q2 : (((w.setCell ⟨b, 3, none⟩ (ptr (some z.b))).drewN k).setCell ⟨z.b, 4, none⟩ (ptr none)).heap[b]? = some (.cells (c.setIfInBounds 3 (ptr (some z.b))) 148 (0, 0)) := old_set q1 _ hbz _
   have s1 : Seg ((w.setCell ⟨b, 3, none⟩ (ptr (some z.b))).drewN k) (some x.b) (z :: r) none := seg_keep hs2 (fun y hy => Below.heap_setCell _ _ _ _ (hbw2 y hy))
   have s2 : Seg (((w.setCell ⟨b, 3, none⟩ (ptr (some z.b))).drewN k).setCell ⟨z.b, 4, none⟩ (ptr none)) none (z :: r) none := seg_prev (p' := none) s1 (fun y hy e => by
    simp only [List.nil_append, List.map_cons, List.nodup_cons] at hnd2
    exact hnd2.1 (e ▸ List.mem_map.2 ⟨y, hy, rfl⟩))
   refine ⟨rfl, ?_, seg_keep s2 (fun y hy => Below.heap_setCell _ _ _ _ (hbw2 y hy)), ?_⟩
   ·have e4 : (c.setIfInBounds 3 (ptr (some z.b))).setIfInBounds 4 (ptr (lst none ([] ++ z :: r))) = c.setIfInBounds 3 (ptr (some z.b)) := cells_set_same (by
     rw [Array.getElem?_setIfInBounds, if_neg (by decide)]; exact h4)
    show (World.setCell _ _ _).heap[b]? = some (.cells (((c.setIfInBounds 3 (ptr (some z.b))).setIfInBounds 4 (ptr (lst none ([] ++ z :: r)))).setIfInBounds 5 _) _ _)
    rw [e4]
    exact set_at q2 _ _
   ·have f1 : Fr (fun j => j = b ∨ ∃ y ∈ [] ++ z :: r, y.b = j) w ((w.setCell ⟨b, 3, none⟩ (ptr (some z.b))).drewN k) := .only (((Only.refl b w).setCell 3 _).drewN k) (.inl rfl)
    exact (f1.trans (.only ((Only.refl z.b _).setCell 4 _) (.inr ⟨z, by simp, rfl⟩))).trans (.only ((Only.refl b _).setCell 5 _) (.inl rfl))
 ·rw [List.concat_eq_append] at *
  have hy : WrAt w y (lst none l) (some x.b) := by
   rw [seg_app] at hs1
   exact hs1.2.1
  have hby : b ≠ y.b := hbw y (by simp)
  have hxy : x.b ≠ y.b := (hne y (by simp)).symm
  have hyl : ∀ v ∈ l, v.b ≠ y.b := fun v hv e => by
   rw [List.map_append, List.nodup_append] at hnd2
   have := hnd2.1
   rw [List.map_append, List.nodup_append] at this
   exact this.2.2 v.b (List.mem_map.2 ⟨v, hv, rfl⟩) y.b (by simp) e
  have hyr : ∀ v ∈ l2, v.b ≠ y.b := fun v hv e => by
   rw [List.map_append, List.nodup_append] at hnd2
   exact hnd2.2.2 y.b (by simp) v.b (List.mem_map.2 ⟨v, hv, rfl⟩) e.symm
  have h3' : c[3]? = some (ptr (hd (l ++ [y] ++ l2) none)) := by
   rw [h3, hd_app, hd_app, hd_app, hd_app]; rfl
  cases l2 with
  | nil =>
   rw [lst_snoc] at hx
   refine (drop_yn w b x.b y.b n _ _ hbx hby hxy ((cell_at hb 4).trans h4) ((cell_at hb 5).trans h5) (free_at hb 4) (free_at hb 5) ((cell_at hx 4).trans rfl) ((cell_at hx 5).trans rfl) (cell_at hy 5) (free_at hy 5) (by omega) (by omega)).mono ?_
   rintro e w' ⟨rfl, k, rfl⟩
   have q1 : ((w.drewN k).setCell ⟨y.b, 5, none⟩ (ptr none)).heap[b]? = some (.cells c 148 (0, 0)) := old_set (w := w.drewN k) hb _ hby _
   have s1 : Seg ((w.drewN k).setCell ⟨y.b, 5, none⟩ (ptr none)) none (l ++ [y]) none := seg_next (w := w.drewN k) (n' := none) (seg_keep hs1 (fun _ _ => rfl)) hyl
   refine ⟨rfl, ?_, ?_, ?_⟩
   ·rw [List.append_nil] at h3' ⊢
    rw [cells_set_same h3', lst_snoc]
    exact set_at (set_at q1 _ _) _ _
   ·rw [List.append_nil]
    exact seg_keep s1 (fun v hv => (Below.heap_setCell _ _ _ _ (hbw2 v (List.mem_append_left _ hv))).trans (Below.heap_setCell _ _ _ _ (hbw2 v (List.mem_append_left _ hv))))
   ·have f1 : Fr (fun j => j = b ∨ ∃ v ∈ l ++ [y] ++ [], v.b = j) w ((w.drewN k).setCell ⟨y.b, 5, none⟩ (ptr none)) := .only (((Only.refl y.b w).drewN k).setCell 5 _) (.inr ⟨y, by simp, rfl⟩)
    exact f1.trans (.only (((Only.refl b _).setCell 4 _).setCell 5 _) (.inl rfl))
  | cons z r =>
   rw [lst_snoc] at hx
   have hz : WrAt w z (some x.b) (hd r none) := hs2.1
   have hbz : b ≠ z.b := hbw z (by simp)
   have hxz : x.b ≠ z.b := (hne z (by simp)).symm
   have hyz : y.b ≠ z.b := (hyr z (by simp)).symm
   refine (drop_yz w b x.b y.b z.b n _ _ hbx hby hbz hxy hxz hyz ((cell_at hb 5).trans h5) (free_at hb 5) ((cell_at hx 4).trans rfl) ((cell_at hx 5).trans rfl) (cell_at hy 5) (free_at hy 5) (cell_at hz 4) (free_at hz 4) (by omega) (by omega)).mono ?_
   rintro e w' ⟨rfl, k, j, rfl⟩
   have q1 : (((w.drewN k).setCell ⟨y.b, 5, none⟩ (ptr (some z.b))).drewN j).heap[b]? = some (.cells c 148 (0, 0)) := old_set (w := w.drewN k) hb _ hby _
   have q2 : ((((w.drewN k).setCell ⟨y.b, 5, none⟩ (ptr (some z.b))).drewN j).setCell ⟨z.b, 4, none⟩ (ptr (some y.b))).heap[b]? = some (.cells c 148 (0, 0)) := old_set q1 _ hbz _
   have s1 : Seg ((w.drewN k).setCell ⟨y.b, 5, none⟩ (ptr (some z.b))) none (l ++ [y]) (some z.b) := seg_next (w := w.drewN k) (seg_keep hs1 (fun _ _ => rfl)) hyl
   have t1 : Seg (((w.drewN k).setCell ⟨y.b, 5, none⟩ (ptr (some z.b))).drewN j) (some x.b) (z :: r) none := seg_keep hs2 (fun v hv => Below.heap_setCell _ _ _ _ (hyr v hv))
   have t2 : Seg ((((w.drewN k).setCell ⟨y.b, 5, none⟩ (ptr (some z.b))).drewN j).setCell ⟨z.b, 4, none⟩ (ptr (some y.b))) (some y.b) (z :: r) none := seg_prev t1 (fun v hv e => by
    rw [List.map_append, List.nodup_append] at hnd2
    have := hnd2.2.1
    rw [List.map_cons, List.nodup_cons] at this
    exact this.1 (e ▸ List.mem_map.2 ⟨v, hv, rfl⟩))
   have s2 : Seg ((((w.drewN k).setCell ⟨y.b, 5, none⟩ (ptr (some z.b))).drewN j).setCell ⟨z.b, 4, none⟩ (ptr (some y.b))) none (l ++ [y]) (some z.b) := seg_keep s1 (fun v hv => Below.heap_setCell _ _ _ _ (fun e => by
    rw [List.map_append, List.nodup_append] at hnd2
    exact hnd2.2.2 v.b (List.mem_map.2 ⟨v, hv, rfl⟩) z.b (by simp) e))
   refine ⟨rfl, ?_, ?_, ?_⟩
   ·have h4' : c[4]? = some (ptr (lst none (l ++ [y] ++ z :: r))) := by
     rw [h4, lst_app (l ++ [y]) (x :: z :: r), lst_app (l ++ [y]) (z :: r)]; rfl
    rw [cells_set_same h3', cells_set_same h4']
    exact set_at q2 _ _
   ·refine seg_keep (w := (((w.drewN k).setCell ⟨y.b, 5, none⟩ (ptr (some z.b))).drewN j).setCell ⟨z.b, 4, none⟩ (ptr (some y.b))) ?_ (fun v hv => Below.heap_setCell _ _ _ _ (hbw2 v hv))
    rw [seg_app]
    exact ⟨s2, by rw [lst_snoc]; exact t2⟩
   ·have f1 : Fr (fun i => i = b ∨ ∃ v ∈ l ++ [y] ++ z :: r, v.b = i) w (((w.drewN k).setCell ⟨y.b, 5, none⟩ (ptr (some z.b))).drewN j) := .only ((((Only.refl y.b w).drewN k).setCell 5 _).drewN j) (.inr ⟨y, by simp, rfl⟩)
    exact (f1.trans (.only ((Only.refl z.b _).setCell 4 _) (.inr ⟨z, by simp, rfl⟩))).trans (.only ((Only.refl b _).setCell 5 _) (.inl rfl))
def lastAt (ws : List Wr) (i : Nat) : Option Nat := lst none (ws.filter (·.pos == i))
theorem lastAt_snoc (ws : List Wr) (x : Wr) (i : Nat) : lastAt (ws ++ [x]) i = if x.pos = i then some x.b else lastAt ws i := by
 unfold lastAt
 rw [List.filter_append]
 by_cases h : x.pos = i
 ·rw [if_pos h, List.filter_cons_of_pos (by simpa using h), List.filter_nil, lst_snoc]
 ·rw [if_neg h, List.filter_cons_of_neg (by simpa using h), List.filter_nil, List.append_nil]
theorem lastAt_none {ws : List Wr} {i : Nat} (h : ∀ x ∈ ws, x.pos ≠ i) : lastAt ws i = none := by
 unfold lastAt
 rw [List.filter_eq_nil_iff.2 (fun x hx => by simpa using h x hx)]
 rfl
theorem lst_some {p : Option Nat} : ∀ {l : List Wr}, l ≠ [] → ∃ l' x, l = l' ++ [x] ∧ lst p l = some x.b := by
 intro l h
 obtain ⟨l', x, rfl⟩ : ∃ l' x, l = l' ++ [x] := ⟨l.dropLast, l.getLast h, (List.dropLast_concat_getLast h).symm⟩
 exact ⟨l', x, rfl, lst_snoc _ _ _⟩
def UnderOk (ws : List Wr) : Prop := ∀ l x r, ws = l ++ x :: r → x.under = lastAt l x.pos
theorem UnderOk.snoc {ws : List Wr} (h : UnderOk ws) (x : Wr) (hx : x.under = lastAt ws x.pos) : UnderOk (ws ++ [x]) := by
 intro l y r e
 rcases List.eq_nil_or_concat r with rfl | ⟨r', z, rfl⟩
 ·obtain ⟨rfl, e2⟩ := List.append_inj' e rfl
  obtain rfl : x = y := by simpa using e2
  exact hx
 ·rw [List.concat_eq_append, ← List.cons_append, ← List.append_assoc] at e
  obtain ⟨e1, _⟩ := List.append_inj' e rfl
  exact h l y r' e1
theorem lastAt_filter (P : Nat → Bool) (ws : List Wr) (i : Nat) (hi : P i = true) : lastAt (ws.filter (fun x => P x.pos)) i = lastAt ws i := by
 unfold lastAt
 rw [List.filter_filter]
 congr 1
 apply List.filter_congr
 intro x _
 by_cases e : x.pos = i
 ·subst e; simp [hi]
 ·simp [e]
theorem UnderOk.filter {ws : List Wr} (h : UnderOk ws) (P : Nat → Bool) : UnderOk (ws.filter (fun x => P x.pos)) := by
 intro l x r e
 obtain ⟨l1, l2, e0, e1, e2⟩ := List.filter_eq_append_iff.1 e
 obtain ⟨m1, m2, e3, e4, e5, e6⟩ := List.filter_eq_cons_iff.1 e2
 have e7 : ws = (l1 ++ m1) ++ x :: m2 := by rw [e0, e3]; simp
 have := h _ _ _ e7
 rw [this]
 have hm : m1.filter (fun x => P x.pos) = [] := List.filter_eq_nil_iff.2 (fun a ha => by simpa using e4 a ha)
 rw [← lastAt_filter P (l1 ++ m1) x.pos e5, List.filter_append, hm, List.append_nil, e1]
structure FileOk (F : Fl) : Prop where
 tops : ∀ i s, F.secs[i]? = some s → s.top = lastAt F.ws i
 unders : UnderOk F.ws
 pos : ∀ x ∈ F.ws, x.pos < F.secs.length
 data : ∀ x ∈ F.ws, x.data.size = 256
 now : ∀ s ∈ F.secs, s.now.size = 256
 safe : ∀ i s, F.secs[i]? = some s → (i < F.ns → s.safe.size = 256) ∧ (F.ns ≤ i → s.safe = ⟨#[]⟩)
 clean : ∀ i s, F.secs[i]? = some s → (∀ x ∈ F.ws, x.pos ≠ i) → i < F.ns ∧ s.safe = s.now
 nsle : F.ns ≤ F.secs.length
 made : F.stays = false → F.ns = 0
 room : F.secs.length ≤ 4001
 turns : F.ws.Pairwise (fun x y => x.turn < y.turn)
 few : F.ws.length ≤ 10000
structure AF where
 now : List ByteArray
 safe : List ByteArray
 made : Bool
 ws : List (Nat × Nat × ByteArray)
def Wr.abs (x : Wr) : Nat × Nat × ByteArray := (x.turn, x.pos, x.data)
def Fl.abs (F : Fl) : AF := ⟨F.secs.map (·.now), (F.secs.take F.ns).map (·.safe), F.stays, F.ws.map Wr.abs⟩
def AF.write (A : AF) (t i : Nat) (d : ByteArray) : AF := { A with now := if i = A.now.length then A.now ++ [d] else A.now.set i d, ws := A.ws ++ [(t, i, d)] }
def AF.sync (A : AF) : AF := { A with safe := A.now, made := true, ws := [] }
def AF.cut (A : AF) (n : Nat) : AF := { A with now := A.now.take n, safe := A.safe.take n, ws := A.ws.filter (fun x => decide (x.2.1 < n)) }
def Fl.write (F : Fl) (sl : Value) (b t i : Nat) (d : ByteArray) : Fl :=
 { F with sl := sl, secs := if i = F.secs.length then F.secs ++ [⟨d, ⟨#[]⟩, some b⟩] else F.secs.modify i (fun s => ⟨d, s.safe, some b⟩), ws := F.ws ++ [⟨b, t, i, d, 0, lastAt F.ws i⟩] }
theorem Fl.write_abs (F : Fl) (h : FileOk F) (sl : Value) (b t i : Nat) (d : ByteArray) : (F.write sl b t i d).abs = F.abs.write t i d := by
 have hns := h.nsle
 unfold Fl.abs Fl.write AF.write
 by_cases hi : i = F.secs.length
 ·subst hi
  simp only [List.length_map, if_pos, List.map_append, List.map_cons, List.map_nil, AF.mk.injEq, true_and, and_true]
  refine ⟨?_, rfl⟩
  rw [List.take_append_of_le_length hns]
 ·have hi' : ¬ i = (F.secs.map (·.now)).length := by simpa using hi
  simp only [if_neg hi, if_neg hi', List.map_append, List.map_cons, List.map_nil, AF.mk.injEq, true_and, and_true]
  refine ⟨?_, ?_, rfl⟩
  ·apply List.ext_getElem?
   intro k
   rw [List.getElem?_map, List.getElem?_modify, List.getElem?_set]
   by_cases e : i = k
   ·subst e
    by_cases hl : i < F.secs.length
    ·simp [hl]
    ·simp [hl]
   ·simp [e]
  ·apply List.ext_getElem?
   intro k
   rw [List.getElem?_map, List.getElem?_map, List.getElem?_take, List.getElem?_take, List.getElem?_modify]
   by_cases hk : k < F.ns
   ·simp only [if_pos hk]
    by_cases e : i = k
    ·subst e; cases F.secs[i]? <;> simp
    ·simp [e]
   ·simp [hk]
theorem Fl.write_ok (F : Fl) (h : FileOk F) (sl : Value) (b t i : Nat) (d : ByteArray) (hi : i ≤ F.secs.length) (hm : i ≤ 4000) (hd : d.size = 256) (ht : ∀ x ∈ F.ws, x.turn < t) (hf : F.ws.length < 10000) : FileOk (F.write sl b t i d) := by
 have hlen : (F.write sl b t i d).secs.length = if i = F.secs.length then F.secs.length + 1 else F.secs.length := by
  unfold Fl.write
  split <;> simp
 have hsec : ∀ k s, (F.write sl b t i d).secs[k]? = some s → (k = i ∧ s.now = d ∧ s.top = some b ∧ (s.safe = ⟨#[]⟩ ∧ i = F.secs.length ∨ ∃ s0, F.secs[i]? = some s0 ∧ s.safe = s0.safe)) ∨ (k ≠ i ∧ F.secs[k]? = some s) := by
  intro k s hk
  unfold Fl.write at hk
  by_cases e : i = F.secs.length
  ·simp only [if_pos e] at hk
   rcases Nat.lt_trichotomy k F.secs.length with hl | hl | hl
   ·rw [List.getElem?_append_left hl] at hk
    exact .inr ⟨by omega, hk⟩
   ·subst hl
    rw [List.getElem?_append_right (Nat.le_refl _), Nat.sub_self] at hk
    simp at hk
    subst hk
    exact .inl ⟨e.symm, rfl, rfl, .inl ⟨rfl, e⟩⟩
   ·rw [List.getElem?_eq_none (by simp; omega)] at hk
    cases hk
  ·simp only [if_neg e] at hk
   rw [List.getElem?_modify] at hk
   by_cases e2 : i = k
   ·subst e2
    simp only [if_pos] at hk
    obtain ⟨s0, hs0, rfl⟩ := Option.map_eq_some_iff.1 hk
    exact .inl ⟨rfl, rfl, rfl, .inr ⟨s0, hs0, rfl⟩⟩
   ·simp only [if_neg e2] at hk
    exact .inr ⟨fun e3 => e2 e3.symm, by simpa using hk⟩
 have hns := h.nsle
 have hws : (F.write sl b t i d).ws = F.ws ++ [⟨b, t, i, d, 0, lastAt F.ws i⟩] := rfl
 refine ⟨?_, h.unders.snoc _ rfl, ?_, ?_, ?_, ?_, ?_, ?_, h.made, ?_, ?_, ?_⟩
 ·intro k s hk
  rw [hws, lastAt_snoc]
  rcases hsec k s hk with ⟨rfl, _, e, _⟩ | ⟨hne, hs⟩
  ·rw [if_pos rfl, e]
  ·rw [if_neg (fun e => hne e.symm)]
   exact h.tops k s hs
 ·intro x hx
  rw [hws] at hx
  rw [hlen]
  rcases List.mem_append.1 hx with hx | hx
  ·have := h.pos x hx
   split <;> omega
  ·obtain rfl := List.mem_singleton.1 hx
   show i < _
   split <;> omega
 ·intro x hx
  rcases List.mem_append.1 hx with hx | hx
  ·exact h.data x hx
  ·obtain rfl := List.mem_singleton.1 hx
   exact hd
 ·intro s hs
  obtain ⟨k, hk⟩ := List.getElem?_of_mem hs
  rcases hsec k s hk with ⟨_, e, _⟩ | ⟨_, e⟩
  ·rw [e]; exact hd
  ·exact h.now s (List.mem_of_getElem? e)
 ·intro k s hk
  rcases hsec k s hk with ⟨rfl, _, _, ⟨e1, e2⟩ | ⟨s0, e1, e2⟩⟩ | ⟨_, e⟩
  ·exact ⟨fun hl => absurd hl (by show ¬ k < F.ns; omega), fun _ => e1⟩
  ·rw [e2]
   exact h.safe k s0 e1
  ·exact h.safe k s e
 ·intro k s hk hno
  rcases hsec k s hk with ⟨rfl, _⟩ | ⟨_, e⟩
  ·exact absurd rfl (hno ⟨b, t, k, d, 0, lastAt F.ws k⟩ (by rw [hws]; simp))
  ·exact h.clean k s e (fun x hx => hno x (by rw [hws]; exact List.mem_append_left _ hx))
 ·rw [hlen]
  show F.ns ≤ _
  split <;> omega
 ·rw [hlen]
  have := h.room
  split <;> omega
 ·rw [hws, List.pairwise_append]
  exact ⟨h.turns, List.pairwise_singleton _ _, fun x hx y hy => by
   obtain rfl := List.mem_singleton.1 hy
   exact ht x hx⟩
 ·rw [hws, List.length_append]
  simp
  omega
def Sec.sync (s : Sec) : Sec := ⟨s.now, s.now, none⟩
def Fl.sync (F : Fl) : Fl := { F with secs := F.secs.map Sec.sync, ns := F.secs.length, stays := true, ws := [] }
theorem Fl.sync_abs (F : Fl) : F.sync.abs = F.abs.sync := by
 unfold Fl.abs Fl.sync AF.sync Sec.sync
 simp only [List.map_map, List.map_nil, AF.mk.injEq, and_true]
 refine ⟨rfl, ?_⟩
 rw [List.take_of_length_le (by simp), List.map_map]
 rfl
theorem Fl.sync_ok (F : Fl) (h : FileOk F) : FileOk F.sync := by
 have hsec : ∀ (k : Nat) (s : Sec), F.sync.secs[k]? = some s → ∃ s0 : Sec, F.secs[k]? = some s0 ∧ s = s0.sync := by
  intro k s hk
  unfold Fl.sync at hk
  simp only [List.getElem?_map] at hk
  obtain ⟨s0, h0, rfl⟩ := Option.map_eq_some_iff.1 hk
  exact ⟨s0, h0, rfl⟩
 have hl : F.sync.secs.length = F.secs.length := by simp [Fl.sync]
 refine ⟨?_, ?_, ?_, ?_, ?_, ?_, ?_, ?_, ?_, ?_, ?_, ?_⟩
 ·intro k s hk
  obtain ⟨s0, _, rfl⟩ := hsec k s hk
  rfl
 ·intro l x r e
  have : (F.sync.ws).length = 0 := rfl
  rw [e] at this
  simp at this
 ·intro x hx; exact absurd hx (by simp [Fl.sync])
 ·intro x hx; exact absurd hx (by simp [Fl.sync])
 ·intro s hs
  obtain ⟨k, hk⟩ := List.getElem?_of_mem hs
  obtain ⟨s0, h0, rfl⟩ := hsec k s hk
  exact h.now s0 (List.mem_of_getElem? h0)
 ·intro k s hk
  obtain ⟨s0, h0, rfl⟩ := hsec k s hk
  have hk2 := (List.getElem?_eq_some_iff.1 h0).1
  exact ⟨fun _ => h.now s0 (List.mem_of_getElem? h0), fun hl => absurd hk2 (by show ¬ k < _; have : F.sync.ns = F.secs.length := rfl; omega)⟩
 ·intro k s hk _
  obtain ⟨s0, h0, rfl⟩ := hsec k s hk
  exact ⟨(List.getElem?_eq_some_iff.1 h0).1, rfl⟩
 ·rw [hl]; exact Nat.le_refl _
 ·intro e; cases e
 ·rw [hl]; exact h.room
 ·exact List.Pairwise.nil
 ·exact Nat.zero_le _
def Fl.cut (F : Fl) (sl : Value) (n : Nat) : Fl := { F with sl := sl, secs := F.secs.take n, ns := min F.ns n, ws := F.ws.filter (fun x => decide (x.pos < n)) }
theorem Fl.cut_abs (F : Fl) (sl : Value) (n : Nat) : (F.cut sl n).abs = F.abs.cut n := by
 unfold Fl.abs Fl.cut AF.cut
 simp only [AF.mk.injEq, List.map_take, true_and]
 refine ⟨?_, ?_⟩
 ·rw [List.take_take, List.take_take]
  congr 1
  omega
 ·rw [List.filter_map]
  rfl
theorem Fl.cut_ok (F : Fl) (h : FileOk F) (sl : Value) (n : Nat) : FileOk (F.cut sl n) := by
 have hsec : ∀ (k : Nat) (s : Sec), (F.cut sl n).secs[k]? = some s → k < n ∧ F.secs[k]? = some s := by
  intro k s hk
  unfold Fl.cut at hk
  simp only [List.getElem?_take] at hk
  by_cases e : k < n
  ·rw [if_pos e] at hk; exact ⟨e, hk⟩
  ·rw [if_neg e] at hk; cases hk
 have hmem : ∀ x, x ∈ (F.cut sl n).ws → x ∈ F.ws ∧ x.pos < n := by
  intro x hx
  have := List.mem_filter.1 hx
  exact ⟨this.1, by simpa using this.2⟩
 have hl : (F.cut sl n).secs.length = min n F.secs.length := by simp [Fl.cut]
 have hns := h.nsle
 refine ⟨?_, h.unders.filter (fun i => decide (i < n)), ?_, ?_, ?_, ?_, ?_, ?_, ?_, ?_, ?_, ?_⟩
 ·intro k s hk
  obtain ⟨h1, h2⟩ := hsec k s hk
  rw [h.tops k s h2]
  exact (lastAt_filter (fun i => decide (i < n)) F.ws k (by simpa using h1)).symm
 ·intro x hx
  obtain ⟨h1, h2⟩ := hmem x hx
  have := h.pos x h1
  rw [hl]; omega
 ·intro x hx; exact h.data x (hmem x hx).1
 ·intro s hs; exact h.now s (List.mem_of_mem_take hs)
 ·intro k s hk
  obtain ⟨h1, h2⟩ := hsec k s hk
  obtain ⟨a, b⟩ := h.safe k s h2
  exact ⟨fun e => a (by have : k < min F.ns n := e; omega), fun e => b (by have : min F.ns n ≤ k := e; omega)⟩
 ·intro k s hk hno
  obtain ⟨h1, h2⟩ := hsec k s hk
  obtain ⟨a, b⟩ := h.clean k s h2 (fun x hx e => hno x (List.mem_filter.2 ⟨hx, by simp; omega⟩) e)
  exact ⟨by show k < min F.ns n; omega, b⟩
 ·rw [hl]; show min F.ns n ≤ _; omega
 ·intro e
  have := h.made e
  show min F.ns n = 0; omega
 ·rw [hl]; have := h.room; omega
 ·exact h.turns.filter _
 ·exact Nat.le_trans (List.length_filter_le _ _) h.few
theorem ptr_shape (o : Option Nat) : ∃ p, ptr o = .pointer p := by cases o <;> exact ⟨_, rfl⟩
theorem size_nil (w : World) : Calls Tryz.prog 93 #[.pointer none] w fun e w' => e = .returned (.int .i64 0) ∧ w = w' := by
 go_enter Tryz.func93, Tryz.ntmps93
 go_wp2
 go_ret
 exact ⟨rfl, rfl⟩
theorem size0 (w : World) (b : Nat) (a : Option Addr) (n cap : Nat) (c0 : w.cell? ⟨b, 0, none⟩ = some (.slice a n cap)) : Calls Tryz.prog 93 #[.pointer (some ⟨b, 0, none⟩)] w fun e w' => e = .returned (.int .i64 n) ∧ w = w' := by
 go_enter Tryz.func93, Tryz.ntmps93
 go_wp2
 go_ret
 exact ⟨rfl, rfl⟩
theorem dirty0 (w : World) (b : Nat) (n : Int) (c5 : w.cell? ⟨b, 5, none⟩ = some (.int .i64 n)) : Calls Tryz.prog 114 #[.pointer (some ⟨b, 0, none⟩)] w fun e w' => e = .returned (.int .i64 n) ∧ w = w' := by
 go_enter Tryz.func114, Tryz.ntmps114
 go_wp2
 go_ret
 exact ⟨rfl, rfl⟩
theorem FileAt.size {w : World} {F : Fl} (h : FileAt w F) : Calls Tryz.prog 93 #[.pointer (some ⟨F.b, 0, none⟩)] w fun e w' => e = .returned (.int .i64 F.secs.length) ∧ w = w' := by
 obtain ⟨a, cap, e⟩ := owns_shape h.row
 exact size0 w F.b a _ cap ((cell_at h.blk 0).trans (by rw [← e]; rfl))
theorem FileAt.dirty {w : World} {F : Fl} (h : FileAt w F) : Calls Tryz.prog 114 #[.pointer (some ⟨F.b, 0, none⟩)] w fun e w' => e = .returned (.int .i64 F.ws.length) ∧ w = w' :=
 dirty0 w F.b _ ((cell_at h.blk 5).trans rfl)
theorem write_old0 (w : World) (b g n cap i : Nat) (t : Int) (d o : ByteArray) (p u : Option Addr) (hi : i < n) (c0 : w.cell? ⟨b, 0, none⟩ = some (.slice (some ⟨g, 0, none⟩) n cap)) (q2 : w.cell? ⟨g, i * 3 + 2, none⟩ = some (.pointer p)) (Q : World → Prop)
  (HA : Calls Tryz.prog 133 #[.pointer (some ⟨b, 3, none⟩), .pointer (some ⟨w.heap.size, 0, none⟩)] (w.alloc (.cells #[.int .i64 t, .int .i64 i, .string d, .int .i64 0, .pointer none, .pointer none, .pointer p] 123)) fun e w' => e = .returned (.tuple #[]) ∧ Q w')
  (HQ : ∀ w2, Q w2 → w2.cell? ⟨g, i * 3, none⟩ = some (.string o) ∧ w2.cell? ⟨g, i * 3 + 2, none⟩ = some (.pointer u) ∧ w2.frozen? ⟨g, i * 3, none⟩ = false ∧ w2.frozen? ⟨g, i * 3 + 2, none⟩ = false) :
  Calls Tryz.prog 96 #[.pointer (some ⟨b, 0, none⟩), .int .i64 t, .int .i64 i, .string d] w fun e w' => e = .returned (.tuple #[]) ∧
   ∃ w2, Q w2 ∧ w' = (w2.setCell ⟨g, i * 3, none⟩ (.string d)).setCell ⟨g, i * 3 + 2, none⟩ (.pointer (some ⟨w.heap.size, 0, none⟩)) := by
 have b1 : (i : Int) < (n : Int) := by omega
 have k1 : ((i : Int) == (n : Int)) = false := by simp; omega
 have H := Lib.hid HA
 have HH := Lib.hid HQ
 clear HA HQ
 go_enter Tryz.func96, Tryz.ntmps96
 go_wp2_with (go_at_call 133; (with_reducible refine H.out.mono ?_); rintro e w2 ⟨rfl, hq⟩; obtain ⟨r0, r2, s0, s2⟩ := HH.out w2 hq)
 go_end0
 exact ⟨rfl, w2, hq, rfl⟩
theorem infoSec : (Tryz.prog.info? 143).map (fun i => (i.zero, i.size, i.bytes)) = some (some (.agg #[.string ⟨#[]⟩, .string ⟨#[]⟩, .pointer none]), 3, 40) := by kernel_rfl
def noSec : List Value := [.string ⟨#[]⟩, .string ⟨#[]⟩, .pointer none]
structure Grown1 (w : World) (v : Value) (n : Nat) (xs : List Value) (g cap : Nat) (w4 : World) : Prop where
 row : w4.ownsRow 0 143 3 (.slice (some ⟨g, 0, none⟩) (n + 1) cap) (n + 1) (xs ++ noSec)
 grown : w.grownBy w4 v.ownBlock
 lies : v.ownBlock = some g ∨ w.heap.size ≤ g
theorem write_new0 (w : World) (b n : Nat) (v : Value) (a : Option Addr) (cap : Nat) (xs : List Value) (t : Int) (d : ByteArray) (hv : v = .slice a n cap) (hn : n ≤ 5000) (c0 : w.cell? ⟨b, 0, none⟩ = some v) (hown : w.ownsRow 0 143 3 v n xs) (Q : Nat → Nat → World → World → Prop)
  (HB : ∀ g cap' w4, Grown1 w v n xs g cap' w4 → w4.frozen? ⟨b, 0, none⟩ = false ∧ (∃ u, w4.cell? ⟨b, 0, none⟩ = some u) ∧ b ≠ g)
  (HA : ∀ g cap' w4, Grown1 w v n xs g cap' w4 → Calls Tryz.prog 133 #[.pointer (some ⟨b, 3, none⟩), .pointer (some ⟨w4.heap.size, 0, none⟩)] ((w4.setCell ⟨b, 0, none⟩ (.slice (some ⟨g, 0, none⟩) (n + 1) cap')).alloc (.cells #[.int .i64 t, .int .i64 n, .string d, .int .i64 0, .pointer none, .pointer none, .pointer none] 123)) fun e w' => e = .returned (.tuple #[]) ∧ Q g cap' w4 w')
  (HQ : ∀ g cap' w4 w2, Q g cap' w4 w2 → (∃ o, w2.cell? ⟨g, n * 3, none⟩ = some (.string o)) ∧ (∃ u, w2.cell? ⟨g, n * 3 + 2, none⟩ = some (.pointer u)) ∧ w2.frozen? ⟨g, n * 3, none⟩ = false ∧ w2.frozen? ⟨g, n * 3 + 2, none⟩ = false) :
  Calls Tryz.prog 96 #[.pointer (some ⟨b, 0, none⟩), .int .i64 t, .int .i64 n, .string d] w fun e w' => e = .returned (.tuple #[]) ∧
   ∃ g cap' w4 w2, Grown1 w v n xs g cap' w4 ∧ Q g cap' w4 w2 ∧ w' = (w2.setCell ⟨g, n * 3, none⟩ (.string d)).setCell ⟨g, n * 3 + 2, none⟩ (.pointer (some ⟨w4.heap.size, 0, none⟩)) := by
 obtain ⟨i0, hi, hz0, hz1, hz2⟩ := info_parts infoSec
 have b1 : (n : Int) < (n : Int) + 1 := by omega
 have b2 : (n : Int) < ((n + 1 : Nat) : Int) := by omega
 have H := Lib.hid HA
 have HH := Lib.hid HQ
 have HBB := Lib.hid HB
 have HO := Lib.hid hown
 have HN := Lib.hid hn
 subst hv
 clear HA HQ hown HB hn
 go_enter Tryz.func96, Tryz.ntmps96
 go_wp2_with (at_builtin; refine wpList_append_lies _ rfl _ _ 144 rfl 0 143 i0 (.agg #[.string ⟨#[]⟩, .string ⟨#[]⟩, .pointer none]) 3 40 Tryz.underlying144 hi hz0 hz1 hz2 rfl (by decide) _ n xs rfl (HO.out.alloc _) ⟨w.heap.size, 0, none⟩ 1 1 noSec rfl rfl ?c1 ?c2 (by decide) ?c3 ?c4 (Nat.zero_le _) (w.heap.size + 1) (by simp) ?_)
 case c1 => exact World.news_of_block (heap_alloc_new w _)
 case c2 => intro u hu; simp [noSec] at hu; rcases hu with rfl | rfl | rfl <;> rfl
 case c3 => have := HN.out; unfold maxLen; omega
 case c4 => have := HN.out; omega
 intro g cap' w4 hown' hgrow hat hlt
 have HG : Hid (Grown1 w (.slice a n cap) n xs g cap' w4) := ⟨hown', (World.grownBy_alloc w _ _).trans hgrow, hat.imp id (fun e => by omega)⟩
 obtain ⟨q1, ⟨u, q2⟩, q3⟩ := HBB.out g cap' w4 HG.out
 have q4 : g ≠ b := fun e => q3 e.symm
 have r2 : w4.cell? ⟨g, n * 3 + 2, none⟩ = some (.pointer none) := owns_cell hown' (j := n * 3 + 2) (by rw [List.getElem?_append_right (by rw [HO.out.1]; omega), HO.out.1, show n * 3 + 2 - n * 3 = 2 by omega]; rfl)
 have HC := Lib.hid (H.out g cap' w4 HG.out)
 clear hown' hgrow hat HO HBB H
 go_wp2_with (go_at_call 133; (with_reducible refine HC.out.mono ?_); rintro e w2 ⟨rfl, hq⟩; obtain ⟨⟨o1, r0⟩, ⟨o2, r2'⟩, s0, s2⟩ := HH.out g cap' w4 w2 hq)
 go_end0
 exact ⟨rfl, g, cap', w4, w2, HG.out, hq, rfl⟩
end Go.Proofs.YtbkngnjkaledlaaGreat.P4
