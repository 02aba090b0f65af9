/-
  Texts of the proof of SaidPlay8b.
-/
import Derived.Test.YtbkngnjkaledlaaGreatMp02
import Derived.Deep.LoopGhost
set_option maxHeartbeats 8000000
set_option maxRecDepth 100000
namespace Go.Proofs.YtbkngnjkaledlaaGreat.P4
open Go Go.RowKit Go.Lib P3
theorem set_same {α : Type} : ∀ (l : List α) (i : Nat) (a : α), l[i]? = some a → l.set i a = l
 | [], _, _, _ => rfl
 | x :: r, 0, a, h => by
  obtain rfl : x = a := by simpa using h
  rfl
 | x :: r, i + 1, a, h => by
  rw [List.set_cons_succ, set_same r i a (by simpa using h)]
theorem modify_set {α : Type} (f : α → α) : ∀ (l : List α) (i : Nat) (a : α), l[i]? = some a → l.modify i f = l.set i (f a)
 | [], _, _, h => by simp at h
 | x :: r, 0, a, h => by
  obtain rfl : x = a := by simpa using h
  rfl
 | x :: r, i + 1, a, h => by
  have := modify_set f r i a (by simpa using h)
  rw [List.set_cons_succ, ← this]
  rfl
theorem secs_now_top (l : List Sec) (i : Nat) (s : Sec) (h : l[i]? = some s) (d : ByteArray) (o : Option Nat) :
  secsCells (l.modify i fun s => ⟨d, s.safe, o⟩) = ((secsCells l).set (i * 3) (.string d)).set (i * 3 + 2) (ptr o) := by
 have h1 := (secs_at l i s h).2.1
 rw [modify_set _ l i s h, secs_set l i s h]
 rw [set_same (((secsCells l).set (i * 3) (.string d))) (i * 3 + 1) (.string s.safe) (by rw [List.getElem?_set, if_neg (by omega)]; exact h1)]
theorem secs_now (l : List Sec) (i : Nat) (s : Sec) (h : l[i]? = some s) (d : ByteArray) :
  secsCells (l.modify i fun s => ⟨d, s.safe, s.top⟩) = (secsCells l).set (i * 3) (.string d) := by
 obtain ⟨_, h1, h2⟩ := secs_at l i s h
 rw [modify_set _ l i s h, secs_set l i s h]
 rw [set_same (((secsCells l).set (i * 3) (.string d))) (i * 3 + 1) (.string s.safe) (by rw [List.getElem?_set, if_neg (by omega)]; exact h1)]
 rw [set_same (((secsCells l).set (i * 3) (.string d))) (i * 3 + 2) (ptr s.top) (by rw [List.getElem?_set, if_neg (by omega)]; exact h2)]
theorem secs_sync (l : List Sec) (i : Nat) (s : Sec) (h : l[i]? = some s) :
  secsCells (l.modify i Sec.sync) = ((secsCells l).set (i * 3 + 1) (.string s.now)).set (i * 3 + 2) (.pointer none) := by
 have h1 := (secs_at l i s h).1
 rw [modify_set _ l i s h, secs_set l i s h]
 show (((secsCells l).set (i * 3) (.string s.now)).set (i * 3 + 1) (.string s.now)).set (i * 3 + 2) (.pointer none) = _
 rw [set_same (secsCells l) (i * 3) (.string s.now) h1]
structure Wrote (w w' : World) (F : Fl) (sl : Value) (b t i : Nat) (d : ByteArray) : Prop where
 at' : FileAt w' (F.write sl b t i d)
 new : w.heap.size ≤ b
 row : ∀ g, sl.ownBlock = some g → F.sl.ownBlock = some g ∨ w.heap.size ≤ g
 fr : Fr F.foot w w'
theorem FileAt.write {w : World} {F : Fl} (h : FileAt w F) (ok : FileOk F) (t i : Nat) (d : ByteArray) (hi : i ≤ F.secs.length) (hf : F.ws.length < 10000) :
  Calls Tryz.prog 96 #[.pointer (some ⟨F.b, 0, none⟩), .int .i64 t, .int .i64 i, .string d] w fun e w' => e = .returned (.tuple #[]) ∧ ∃ sl b, Wrote w w' F sl b t i d := by
 have hroom := ok.room
 have hbl := lt_of_block h.blk
 by_cases he : i = F.secs.length
 ·subst he
  obtain ⟨a, cap, hv⟩ := owns_shape h.row
  have hne : ∀ x ∈ F.ws, x.pos ≠ F.secs.length := fun x hx => by have := ok.pos x hx; omega
  have hbg : ∀ g, F.sl.ownBlock = some g → F.b ≠ g := by
   intro g hg
   rw [hv] at hg
   cases a with
   | none => cases hg
   | some a =>
    have hr := h.row
    rcases hr.2 with ⟨h0, _⟩ | ⟨g', cap', cur, h0, h1, h2, _⟩
    ·rw [h0] at hv; cases hv
    ·rw [h0] at hv
     simp only [Value.slice.injEq, Option.some.injEq] at hv
     obtain ⟨rfl, _⟩ := hv
     obtain rfl : g' = g := by simpa [Value.ownBlock] using hg
     exact block_ne h.blk h2 (by decide)
  have hgrow : ∀ g cap' w4, Grown1 w F.sl F.secs.length (secsCells F.secs) g cap' w4 → w4.heap[F.b]? = some (.cells F.cells 148 (0, 0)) ∧ F.b ≠ g ∧ (∀ k, k < w.heap.size → F.sl.ownBlock ≠ some k → w4.heap[k]? = w.heap[k]?) := by
   intro g cap' w4 hG
   have h1 : F.b ≠ g := by
    rcases hG.lies with e | e
    ·exact hbg g e
    ·omega
   refine ⟨?_, h1, fun k hk hn => hG.grown.block k hk (fun e => hn e.symm)⟩
   rw [hG.grown.block F.b hbl (fun e => hbg F.b e.symm rfl)]
   exact h.blk
  have hwn : ∀ x ∈ F.ws, F.sl.ownBlock ≠ some x.b := by
   intro x hx e
   obtain ⟨_, _, hx'⟩ := seg_mem h.seg x hx
   rcases h.row.2 with ⟨h0, _⟩ | ⟨g', cap', cur, h0, h1, h2, _⟩
   ·rw [h0] at e; cases e
   ·rw [h0] at e
    obtain rfl : g' = x.b := by simpa [Value.ownBlock] using e
    exact block_ne hx' h2 (by decide) rfl
  refine (write_new0 w F.b F.secs.length F.sl a cap (secsCells F.secs) t d hv (by omega) ((cell_at h.blk 0).trans rfl) h.row
   (fun g cap' w4 w2 => w2.heap[F.b]? = some (.cells (#[.slice (some ⟨g, 0, none⟩) (F.secs.length + 1) cap', .int .i64 F.ns, .bool F.stays, ptr (hd (F.ws ++ [⟨w4.heap.size, t, F.secs.length, d, 0, none⟩]) none), ptr (some w4.heap.size), .int .i64 ((F.ws.length : Int) + 1)]) 148 (0, 0)) ∧
    Seg w2 none (F.ws ++ [⟨w4.heap.size, t, F.secs.length, d, 0, none⟩]) none ∧ Grown1 w F.sl F.secs.length (secsCells F.secs) g cap' w4 ∧ Fr (fun k => k = F.b ∨ ∃ y ∈ F.ws ++ [⟨w4.heap.size, t, F.secs.length, d, 0, none⟩], y.b = k) w4 w2)
   (fun g cap' w4 hG => ?_) (fun g cap' w4 hG => ?_) (fun g cap' w4 w2 hq => ?_)).mono ?_
  ·obtain ⟨q1, q2, _⟩ := hgrow g cap' w4 hG
   exact ⟨free_at q1 0, ⟨_, cell_at q1 0⟩, q2⟩
  ·obtain ⟨q1, q2, q3⟩ := hgrow g cap' w4 hG
   have q4 := old_alloc (set_at q1 0 (.slice (some ⟨g, 0, none⟩) (F.secs.length + 1) cap')) (.cells #[.int .i64 t, .int .i64 F.secs.length, .string d, .int .i64 0, .pointer none, .pointer none, .pointer none] 123)
   have hsz : (w4.setCell ⟨F.b, 0, none⟩ (.slice (some ⟨g, 0, none⟩) (F.secs.length + 1) cap')).heap.size = w4.heap.size := by simp [World.setCell]
   have hlt := hG.grown.size
   have hx : WrAt ((w4.setCell ⟨F.b, 0, none⟩ (.slice (some ⟨g, 0, none⟩) (F.secs.length + 1) cap')).alloc (.cells #[.int .i64 t, .int .i64 F.secs.length, .string d, .int .i64 0, .pointer none, .pointer none, .pointer none] 123)) ⟨w4.heap.size, t, F.secs.length, d, 0, none⟩ none none := by
    have := new_at (w4.setCell ⟨F.b, 0, none⟩ (.slice (some ⟨g, 0, none⟩) (F.secs.length + 1) cap')) #[.int .i64 t, .int .i64 F.secs.length, .string d, .int .i64 0, .pointer none, .pointer none, .pointer none] 123
    rw [hsz] at this
    exact this
   have hs : Seg ((w4.setCell ⟨F.b, 0, none⟩ (.slice (some ⟨g, 0, none⟩) (F.secs.length + 1) cap')).alloc (.cells #[.int .i64 t, .int .i64 F.secs.length, .string d, .int .i64 0, .pointer none, .pointer none, .pointer none] 123)) none F.ws none := by
    refine seg_keep h.seg (fun x hx => ?_)
    have hxl := seg_lt h.seg x hx
    rw [Below.heap_alloc _ _ _ (by rw [hsz]; omega), Below.heap_setCell _ _ _ _ (fun e => ?_)]
    ·exact q3 x.b hxl (hwn x hx)
    ·obtain ⟨_, _, hx'⟩ := seg_mem h.seg x hx
     exact block_ne hx' h.blk (by decide) e
   refine (add_any _ q4 rfl rfl rfl rfl hs hx ?_ (by omega)).mono ?_
   ·rw [List.map_append, List.nodup_append]
    refine ⟨h.nodup, by simp, fun a ha c hc => ?_⟩
    obtain ⟨x, hx1, rfl⟩ := List.mem_map.1 ha
    have := seg_lt h.seg x hx1
    simp at hc
    omega
   ·rintro e w2 ⟨rfl, hb2, hs2, hf2⟩
    refine ⟨rfl, hb2, hs2, hG, ?_⟩
    have f0 : Fr (fun k => k = F.b ∨ ∃ y ∈ F.ws ++ [⟨w4.heap.size, t, F.secs.length, d, 0, none⟩], y.b = k) w4 (w4.setCell ⟨F.b, 0, none⟩ (.slice (some ⟨g, 0, none⟩) (F.secs.length + 1) cap')) := .only ((Only.refl F.b w4).setCell 0 _) (.inl rfl)
    exact (f0.trans (.of (below_new _ _))).trans hf2
  ·obtain ⟨_, _, hG, hf⟩ := hq
   obtain ⟨q1, q2, q3⟩ := hgrow g cap' w4 hG
   have hgl := owns_lt hG.row
   have hns : ¬ (g = F.b ∨ ∃ y ∈ F.ws ++ [⟨w4.heap.size, t, F.secs.length, d, 0, none⟩], y.b = g) := by
    rintro (e | ⟨y, hy, e⟩)
    ·exact q2 e.symm
    ·rcases List.mem_append.1 hy with hy | hy
     ·subst e
      rcases hG.lies with e | e
      ·exact hwn y hy e
      ·have := seg_lt h.seg y hy; omega
     ·obtain rfl := List.mem_singleton.1 hy
      simp at e
      omega
   have hr := owns_fr hG.row hf (fun g' e => by obtain rfl : g = g' := by simpa [Value.ownBlock] using e
                                                exact hns)
   have c0 : ∀ j u, noSec[j]? = some u → w2.cell? ⟨g, F.secs.length * 3 + j, none⟩ = some u := fun j u hu =>
    owns_cell hr (by rw [List.getElem?_append_right (by rw [secs_length]; omega), secs_length, show F.secs.length * 3 + j - F.secs.length * 3 = j by omega]; exact hu)
   exact ⟨⟨_, c0 0 _ rfl⟩, ⟨_, c0 2 _ rfl⟩, owns_free hr _, owns_free hr _⟩
  ·rintro e w' ⟨rfl, g, cap', w4, w2, hG, ⟨hb2, hs2, _, hf2⟩, rfl⟩
   obtain ⟨q1, q2, q3⟩ := hgrow g cap' w4 hG
   have hgl := owns_lt hG.row
   have hlt := hG.grown.size
   have hns : ¬ (g = F.b ∨ ∃ y ∈ F.ws ++ [⟨w4.heap.size, t, F.secs.length, d, 0, none⟩], y.b = g) := by
    rintro (e | ⟨y, hy, e⟩)
    ·exact q2 e.symm
    ·rcases List.mem_append.1 hy with hy | hy
     ·subst e
      rcases hG.lies with e | e
      ·exact hwn y hy e
      ·have := seg_lt h.seg y hy; omega
     ·obtain rfl := List.mem_singleton.1 hy
      simp at e
      omega
   have hr := owns_fr hG.row hf2 (fun g' e => by obtain rfl : g = g' := by simpa [Value.ownBlock] using e
                                                 exact hns)
   have hr2 := owns_set (owns_set hr (F.secs.length * 3) (.string d)) (F.secs.length * 3 + 2) (.pointer (some ⟨w4.heap.size, 0, none⟩))
   have hF : F.write (.slice (some ⟨g, 0, none⟩) (F.secs.length + 1) cap') w4.heap.size t F.secs.length d = { F with sl := .slice (some ⟨g, 0, none⟩) (F.secs.length + 1) cap', secs := F.secs ++ [⟨d, ⟨#[]⟩, some w4.heap.size⟩], ws := F.ws ++ [⟨w4.heap.size, t, F.secs.length, d, 0, none⟩] } := by
    unfold Fl.write
    rw [if_pos rfl, lastAt_none hne]
   refine ⟨rfl, .slice (some ⟨g, 0, none⟩) (F.secs.length + 1) cap', w4.heap.size, ?_, hlt, fun g' e => ?_, ?_⟩
   ·rw [hF]
    refine ⟨?_, ?_, ?_, ?_⟩
    ·rw [Below.heap_setCell _ _ _ _ q2, Below.heap_setCell _ _ _ _ q2, hb2]
     unfold Fl.cells
     rw [lst_snoc, List.length_append]
     rfl
    ·have e1 : secsCells (F.secs ++ [(⟨d, ⟨#[]⟩, some w4.heap.size⟩ : Sec)]) = (((secsCells F.secs ++ noSec).set (F.secs.length * 3) (.string d)).set (F.secs.length * 3 + 2) (.pointer (some ⟨w4.heap.size, 0, none⟩))) := by
      rw [secs_app, ← secs_length, List.set_append_right _ _ (Nat.le_refl _), List.set_append_right _ _ (Nat.le_add_right _ _), Nat.sub_self, show (secsCells F.secs).length + 2 - (secsCells F.secs).length = 2 by omega]
      rfl
     show World.ownsRow _ _ _ _ _ (F.secs ++ [(⟨d, ⟨#[]⟩, some w4.heap.size⟩ : Sec)]).length (secsCells (F.secs ++ [(⟨d, ⟨#[]⟩, some w4.heap.size⟩ : Sec)]))
     rw [e1, List.length_append]
     exact hr2
    ·refine seg_keep hs2 (fun x hx => ?_)
     have hxg : x.b ≠ g := fun e => hns (.inr ⟨x, hx, e⟩)
     rw [Below.heap_setCell _ _ _ _ hxg, Below.heap_setCell _ _ _ _ hxg]
    ·show ((F.ws ++ [_] : List Wr).map (·.b)).Nodup
     rw [List.map_append, List.nodup_append]
     refine ⟨h.nodup, by simp, fun a ha c hc => ?_⟩
     obtain ⟨x, hx1, rfl⟩ := List.mem_map.1 ha
     have := seg_lt h.seg x hx1
     simp at hc
     omega
   ·obtain rfl : g = g' := by simpa [Value.ownBlock] using e
    exact hG.lies
   ·have f1 : Fr (fun k => F.foot k ∨ w.heap.size ≤ k) w w4 := ⟨hG.grown.os, hG.grown.tape, hG.grown.output, hG.grown.size, fun k hk hn => q3 k hk (fun e => hn (.inl (.inr (.inl e))))⟩
    have f2 : Fr (fun k => F.foot k ∨ w.heap.size ≤ k) w4 w2 := hf2.mono (fun k _ hk => by
     rcases hk with rfl | ⟨y, hy, rfl⟩
     ·exact .inl (.inl rfl)
     ·rcases List.mem_append.1 hy with hy | hy
      ·exact .inl (.inr (.inr ⟨y, hy, rfl⟩))
      ·obtain rfl := List.mem_singleton.1 hy
       exact .inr hlt)
    have hg' : F.foot g ∨ w.heap.size ≤ g := hG.lies.imp (fun e => .inr (.inl e)) id
    exact (((f1.trans f2).trans (.only ((Only.refl g _).setCell _ _) hg')).trans (.only ((Only.refl g _).setCell _ _) hg')).mono (fun k hk h' => h'.elim id (fun e => by omega))
 ·have hil : i < F.secs.length := by omega
  obtain ⟨g, cap, cur, hv, hg, hcap, hmx, hcs, hxs⟩ := owns_some h.row (by omega)
  have hr := h.row
  rw [hv] at hr
  have hgl : g < w.heap.size := lt_of_block hg
  have hbg : F.b ≠ g := block_ne h.blk hg (by decide)
  obtain ⟨s, hs⟩ : ∃ s, F.secs[i]? = some s := ⟨_, List.getElem?_eq_getElem hil⟩
  obtain ⟨s0, s1, s2⟩ := secs_at F.secs i s hs
  obtain ⟨p, hp⟩ := ptr_shape s.top
  have htop := ok.tops i s hs
  have hwn : ∀ x ∈ F.ws, g ≠ x.b := by
   intro x hx e
   obtain ⟨_, _, hx'⟩ := seg_mem h.seg x hx
   exact block_ne hg hx' (by decide) e
  refine (write_old0 w F.b g F.secs.length cap i t d s.now p p hil ((cell_at h.blk 0).trans (by rw [← hv]; rfl)) (owns_cell hr (by rw [s2, hp]))
   (fun w2 => w2.heap[F.b]? = some (.cells (#[F.sl, .int .i64 F.ns, .bool F.stays, ptr (hd (F.ws ++ [⟨w.heap.size, t, i, d, 0, s.top⟩]) none), ptr (some w.heap.size), .int .i64 ((F.ws.length : Int) + 1)]) 148 (0, 0)) ∧
    Seg w2 none (F.ws ++ [⟨w.heap.size, t, i, d, 0, s.top⟩]) none ∧ Fr (fun k => k = F.b ∨ ∃ y ∈ F.ws ++ [⟨w.heap.size, t, i, d, 0, s.top⟩], y.b = k) w w2) ?_ (fun w2 hq => ?_)).mono ?_
  ·have q4 := old_alloc h.blk (.cells #[.int .i64 t, .int .i64 i, .string d, .int .i64 0, .pointer none, .pointer none, .pointer p] 123)
   have hx : WrAt (w.alloc (.cells #[.int .i64 t, .int .i64 i, .string d, .int .i64 0, .pointer none, .pointer none, .pointer p] 123)) ⟨w.heap.size, t, i, d, 0, s.top⟩ none none := by
    unfold WrAt Wr.cells
    rw [hp]
    exact new_at w _ _
   have hs : Seg (w.alloc (.cells #[.int .i64 t, .int .i64 i, .string d, .int .i64 0, .pointer none, .pointer none, .pointer p] 123)) none F.ws none := seg_keep h.seg (fun x hx => Below.heap_alloc _ _ _ (seg_lt h.seg x hx))
   refine (add_any _ q4 rfl rfl rfl rfl hs hx ?_ (by omega)).mono ?_
   ·rw [List.map_append, List.nodup_append]
    refine ⟨h.nodup, by simp, fun a ha c hc => ?_⟩
    obtain ⟨x, hx1, rfl⟩ := List.mem_map.1 ha
    have := seg_lt h.seg x hx1
    simp at hc
    omega
   ·rintro e w2 ⟨rfl, hb2, hs2, hf2⟩
    exact ⟨rfl, hb2, hs2, (Fr.of (below_new _ _)).trans hf2⟩
  ·obtain ⟨_, _, hf⟩ := hq
   have hns : ¬ (g = F.b ∨ ∃ y ∈ F.ws ++ [⟨w.heap.size, t, i, d, 0, s.top⟩], y.b = g) := by
    rintro (e | ⟨y, hy, e⟩)
    ·exact hbg e.symm
    ·rcases List.mem_append.1 hy with hy | hy
     ·exact hwn y hy e.symm
     ·obtain rfl := List.mem_singleton.1 hy
      simp at e
      omega
   have hr2 := owns_fr hr hf (fun g' e => by obtain rfl : g = g' := by simpa [Value.ownBlock] using e
                                             exact hns)
   exact ⟨owns_cell hr2 s0, owns_cell hr2 (by rw [s2, hp]), owns_free hr2 _, owns_free hr2 _⟩
  ·rintro e w' ⟨rfl, w2, ⟨hb2, hs2, hf2⟩, rfl⟩
   have hns : ¬ (g = F.b ∨ ∃ y ∈ F.ws ++ [⟨w.heap.size, t, i, d, 0, s.top⟩], y.b = g) := by
    rintro (e | ⟨y, hy, e⟩)
    ·exact hbg e.symm
    ·rcases List.mem_append.1 hy with hy | hy
     ·exact hwn y hy e.symm
     ·obtain rfl := List.mem_singleton.1 hy
      simp at e
      omega
   have hr2 := owns_fr hr hf2 (fun g' e => by obtain rfl : g = g' := by simpa [Value.ownBlock] using e
                                              exact hns)
   have hr3 := owns_set (owns_set hr2 (i * 3) (.string d)) (i * 3 + 2) (ptr (some w.heap.size))
   rw [← secs_now_top F.secs i s hs d (some w.heap.size), ← hv] at hr3
   refine ⟨rfl, F.sl, w.heap.size, ?_, Nat.le_refl _, fun g' e => .inl e, ?_⟩
   ·have hF : F.write F.sl w.heap.size t i d = { F with secs := F.secs.modify i (fun s => ⟨d, s.safe, some w.heap.size⟩), ws := F.ws ++ [⟨w.heap.size, t, i, d, 0, s.top⟩] } := by
     unfold Fl.write
     rw [if_neg he, htop]
    rw [hF]
    refine ⟨?_, ?_, ?_, ?_⟩
    ·rw [Below.heap_setCell _ _ _ _ hbg, Below.heap_setCell _ _ _ _ hbg, hb2]
     unfold Fl.cells
     rw [lst_snoc, List.length_append]
     rfl
    ·show World.ownsRow _ _ _ _ _ (F.secs.modify i _).length (secsCells (F.secs.modify i _))
     rw [List.length_modify]
     exact hr3
    ·refine seg_keep hs2 (fun x hx => ?_)
     have hxg : x.b ≠ g := fun e => hns (.inr ⟨x, hx, e⟩)
     rw [Below.heap_setCell _ _ _ _ hxg, Below.heap_setCell _ _ _ _ hxg]
    ·show ((F.ws ++ [_] : List Wr).map (·.b)).Nodup
     rw [List.map_append, List.nodup_append]
     refine ⟨h.nodup, by simp, fun a ha c hc => ?_⟩
     obtain ⟨x, hx1, rfl⟩ := List.mem_map.1 ha
     have := seg_lt h.seg x hx1
     simp at hc
     omega
   ·have f2 : Fr (fun k => F.foot k ∨ w.heap.size ≤ k) w w2 := hf2.mono (fun k _ hk => by
     rcases hk with rfl | ⟨y, hy, rfl⟩
     ·exact .inl (.inl rfl)
     ·rcases List.mem_append.1 hy with hy | hy
      ·exact .inl (.inr (.inr ⟨y, hy, rfl⟩))
      ·obtain rfl := List.mem_singleton.1 hy
       exact .inr (Nat.le_refl _))
    have hg' : F.foot g ∨ w.heap.size ≤ g := .inl (.inr (.inl (by rw [hv]; rfl)))
    exact ((f2.trans (.only ((Only.refl g _).setCell _ _) hg')).trans (.only ((Only.refl g _).setCell _ _) hg')).mono (fun k hk h' => h'.elim id (fun e => by omega))
def overPos (f : Sec → Sec) (l : List Wr) (secs : List Sec) : List Sec := l.foldl (fun S x => S.modify x.pos f) secs
theorem over_snoc (f : Sec → Sec) (l : List Wr) (x : Wr) (secs : List Sec) : overPos f (l ++ [x]) secs = (overPos f l secs).modify x.pos f := by simp [overPos]
theorem over_length (f : Sec → Sec) : ∀ (l : List Wr) (secs : List Sec), (overPos f l secs).length = secs.length
 | [], _ => rfl
 | x :: r, secs => by
  show (overPos f r (secs.modify x.pos f)).length = _
  rw [over_length f r, List.length_modify]
theorem over_at (f : Sec → Sec) (hf : ∀ s, f (f s) = f s) : ∀ (l : List Wr) (secs : List Sec) (i : Nat), (overPos f l secs)[i]? = if l.any (fun x => x.pos == i) then secs[i]?.map f else secs[i]?
 | [], secs, i => rfl
 | x :: r, secs, i => by
  show (overPos f r (secs.modify x.pos f))[i]? = _
  rw [over_at f hf r, List.getElem?_modify, List.any_cons]
  by_cases e : x.pos = i
  ·subst e
   cases hs : secs[x.pos]? <;> simp [hf]
  ·have e2 : (x.pos == i) = false := by simpa using e
   rw [e2, Bool.false_or]
   simp [e]
theorem sync_over {F : Fl} (ok : FileOk F) : overPos Sec.sync F.ws F.secs = F.secs.map Sec.sync := by
 apply List.ext_getElem?
 intro i
 rw [over_at Sec.sync (fun _ => rfl), List.getElem?_map]
 split
 ·rfl
 ·rename_i hno
  cases hs : F.secs[i]? with
  | none => rfl
  | some s =>
   have hne : ∀ x ∈ F.ws, x.pos ≠ i := fun x hx e => hno (List.any_eq_true.2 ⟨x, hx, by simpa using e⟩)
   obtain ⟨_, h2⟩ := ok.clean i s hs hne
   have h3 := ok.tops i s hs
   rw [lastAt_none hne] at h3
   show some s = some s.sync
   unfold Sec.sync
   congr
   cases s
   simp_all
structure RowSt (w : World) (F : Fl) (secs : List Sec) (wr : World) : Prop where
 blk : wr.heap[F.b]? = some (.cells F.cells 148 (0, 0))
 seg : Seg wr none F.ws none
 row : wr.ownsRow 0 143 3 F.sl secs.length (secsCells secs)
 fr : Fr (fun k => F.sl.ownBlock = some k) w wr
theorem FileAt.ne_row {w : World} {F : Fl} (h : FileAt w F) : (∀ g, F.sl.ownBlock = some g → F.b ≠ g) ∧ ∀ g, F.sl.ownBlock = some g → ∀ x ∈ F.ws, x.b ≠ g := by
 refine ⟨fun g hg => ?_, fun g hg x hx => ?_⟩ <;>
 ·rcases h.row.2 with ⟨h0, _⟩ | ⟨g', cap', cur, h0, h1, h2, _⟩
  ·rw [h0] at hg; cases hg
  ·rw [h0] at hg
   obtain rfl : g' = g := by simpa [Value.ownBlock] using hg
   first
    | exact block_ne h.blk h2 (by decide)
    | (obtain ⟨_, _, hx'⟩ := seg_mem h.seg x hx
       exact block_ne hx' h2 (by decide))
theorem RowSt.step {w wr : World} {F : Fl} {secs secs' : List Sec} (hw : FileAt w F) (h : RowSt w F secs wr) {g : Nat} (hg : F.sl.ownBlock = some g) {w' : World} (hlen : secs'.length = secs.length) (ho : Only g wr w') (hrow : w'.ownsRow 0 143 3 F.sl secs.length (secsCells secs')) : RowSt w F secs' w' :=
 ⟨ho.keep h.blk (hw.ne_row.1 g hg), seg_keep h.seg (fun x hx => ho.block _ (seg_lt h.seg x hx) (hw.ne_row.2 g hg x hx)), by rw [hlen]; exact hrow, h.fr.trans (.only ho hg)⟩
theorem sync_walk {w : World} {F : Fl} (h : FileAt w F) (ok : FileOk F) :
  Calls Tryz.prog 99 #[.pointer (some ⟨F.b, 0, none⟩)] w fun e w' => e = .returned (.tuple #[]) ∧ ∃ wr, RowSt w F (overPos Sec.sync F.ws F.secs) wr ∧
   w' = ((((wr.setCell ⟨F.b, 1, none⟩ (.int .i64 F.secs.length)).setCell ⟨F.b, 2, none⟩ (.bool true)).setCell ⟨F.b, 3, none⟩ (.pointer none)).setCell ⟨F.b, 4, none⟩ (.pointer none)).setCell ⟨F.b, 5, none⟩ (.int .i64 0) := by
 obtain ⟨a0, cap0, hv⟩ := owns_shape h.row
 obtain ⟨p, hp⟩ := ptr_shape (hd F.ws none)
 have c3 : w.cell? ⟨F.b, 3, none⟩ = some (.pointer p) := (cell_at h.blk 3).trans (by show some (ptr (hd F.ws none)) = _; rw [hp])
 have HH := Lib.hid h
 have HV := Lib.hid hv
 have HP := Lib.hid hp
 have HOK := Lib.hid ok
 clear h hv hp ok
 go_enter Tryz.func99, Tryz.ntmps99
 go_wp2
 go_loopg [2] (F.ws.length) (fun g v wr => ∃ l r, F.ws = l ++ r ∧ r.length ≤ g ∧ v = ptr (hd r none) ∧ Hid (RowSt w F (overPos Sec.sync l F.secs) wr))
 case atStart => exact ⟨[], F.ws, rfl, Nat.le_refl _, HP.out.symm, HH.out.blk, HH.out.seg, HH.out.row, Fr.refl _ _⟩
 case round =>
  obtain ⟨l, r, hlr, hgr, rfl, hS⟩ := hrel
  have HLR := Lib.hid hlr
  clear hlr c3
  cases r with
  | nil =>
   have e0 : ptr (hd [] none) = .pointer none := rfl
   rw [e0]
   have c0 : wr.cell? ⟨F.b, 0, none⟩ = some (.slice a0 F.secs.length cap0) := (cell_at hS.out.blk 0).trans (by rw [← HV.out]; rfl)
   have c1 : wr.cell? ⟨F.b, 1, none⟩ = some (.int .i64 F.ns) := cell_at hS.out.blk 1
   have c2 : wr.cell? ⟨F.b, 2, none⟩ = some (.bool F.stays) := cell_at hS.out.blk 2
   have c3 : wr.cell? ⟨F.b, 3, none⟩ = some (ptr (hd F.ws none)) := cell_at hS.out.blk 3
   have c4 : wr.cell? ⟨F.b, 4, none⟩ = some (ptr (lst none F.ws)) := cell_at hS.out.blk 4
   have c5 : wr.cell? ⟨F.b, 5, none⟩ = some (.int .i64 F.ws.length) := cell_at hS.out.blk 5
   have f1 := free_at hS.out.blk 1
   have f2 := free_at hS.out.blk 2
   have f3 := free_at hS.out.blk 3
   have f4 := free_at hS.out.blk 4
   have f5 := free_at hS.out.blk 5
   clear e0
   go_wp2
   go_end0
   refine ⟨rfl, wr, ?_, rfl⟩
   have e := HLR.out
   rw [List.append_nil] at e
   rw [e]
   exact hS.out
  | cons x r =>
   have hx : x ∈ F.ws := by rw [HLR.out]; simp
   have hpos := HOK.out.pos x hx
   obtain ⟨g, cap, hv2, _, hgl⟩ := hS.out.row.form (by rw [over_length]; omega)
   rw [over_length] at hv2
   have hg : F.sl.ownBlock = some g := by rw [hv2]; rfl
   have hbg := HH.out.ne_row.1 g hg
   have hxg := HH.out.ne_row.2 g hg x hx
   have hgx : g ≠ x.b := fun e => hxg e.symm
   have hrow := hS.out.row
   rw [hv2] at hrow
   obtain ⟨s, hs⟩ : ∃ s, (overPos Sec.sync l F.secs)[x.pos]? = some s := ⟨_, List.getElem?_eq_getElem (by rw [over_length]; exact hpos)⟩
   obtain ⟨s0, s1, s2⟩ := secs_at _ _ _ hs
   have hol := over_length Sec.sync l F.secs
   rw [hol] at hrow
   have r0 := owns_cell hrow s0
   have r1 := owns_cell hrow s1
   have r2 := owns_cell hrow s2
   have f1 := owns_free hrow (x.pos * 3 + 1)
   have f2 := owns_free hrow (x.pos * 3 + 2)
   have hseg := hS.out.seg
   rw [HLR.out, seg_app] at hseg
   have hxa : WrAt wr x (lst none l) (hd r none) := hseg.2.1
   obtain ⟨p, hp⟩ := ptr_shape (hd r none)
   have x1 : wr.cell? ⟨x.b, 1, none⟩ = some (.int .i64 x.pos) := (cell_at hxa 1).trans rfl
   have x5 : wr.cell? ⟨x.b, 5, none⟩ = some (.pointer p) := (cell_at hxa 5).trans (by rw [← hp]; rfl)
   have c0 : wr.cell? ⟨F.b, 0, none⟩ = some (.slice (some ⟨g, 0, none⟩) F.secs.length cap) := (cell_at hS.out.blk 0).trans (by rw [← hv2]; rfl)
   have b1 : (x.pos : Int) < (F.secs.length : Int) := by omega
   have e0 : ptr (hd (x :: r) none) = .pointer (some ⟨x.b, 0, none⟩) := rfl
   rw [e0]
   have HP2 := Lib.hid hp
   have HRow := Lib.hid hrow
   have HS0 := Lib.hid hs
   have HG := Lib.hid hg
   have HV2 := Lib.hid hv2
   have HL := Lib.hid hol
   clear e0 hp hrow hs s0 s1 s2 hseg hxa hx hg hv2 hol
   go_wp2
   go_region
   go_wp2
   go_roundg (r.length)
   case measure => simp at hgr; omega
   case rel =>
    refine ⟨l ++ [x], r, by rw [HLR.out]; simp, Nat.le_refl _, HP2.out.symm, ?_⟩
    rw [over_snoc]
    refine RowSt.step HH.out hS.out HG.out (by rw [List.length_modify]) ((((Only.refl g _).drewN _).setCell _ _).setCell _ _) ?_
    rw [secs_sync _ _ _ HS0.out, HL.out, HV2.out]
    exact owns_set (owns_set (w := World.drewN _ _) HRow.out (x.pos * 3 + 1) (.string s.now)) (x.pos * 3 + 2) (.pointer none)
theorem RowSt.below {w wr w' : World} {F : Fl} {secs : List Sec} (h : RowSt w F secs wr) (hb : Below wr.heap.size wr w') : RowSt w F secs w' :=
 ⟨old_below h.blk hb, seg_keep h.seg (fun x hx => hb.block _ (seg_lt h.seg x hx)), owns_keep h.row (fun g hg => hb.block g (h.row.lt g hg).2), h.fr.trans (.of hb)⟩
theorem FileAt.sync {w : World} {F : Fl} (h : FileAt w F) (ok : FileOk F) :
  Calls Tryz.prog 99 #[.pointer (some ⟨F.b, 0, none⟩)] w fun e w' => e = .returned (.tuple #[]) ∧ FileAt w' F.sync ∧ Fr F.foot w w' := by
 refine (sync_walk h ok).mono ?_
 rintro e w' ⟨rfl, wr, hS, rfl⟩
 rw [sync_over ok] at hS
 have hne : ∀ g, F.sl.ownBlock = some g → g ≠ F.b := fun g hg e => h.ne_row.1 g hg e.symm
 refine ⟨rfl, ⟨?_, ?_, trivial, List.nodup_nil⟩, ?_⟩
 ·exact set_at (set_at (set_at (set_at (set_at hS.blk _ _) _ _) _ _) _ _) _ _
 ·have := hS.row
  refine owns_keep this (fun g hg => ?_)
  rw [Below.heap_setCell _ _ _ _ (hne g hg), Below.heap_setCell _ _ _ _ (hne g hg), Below.heap_setCell _ _ _ _ (hne g hg), Below.heap_setCell _ _ _ _ (hne g hg), Below.heap_setCell _ _ _ _ (hne g hg)]
 ·have f1 : Fr F.foot w wr := hS.fr.mono (fun k _ hk => .inr (.inl hk))
  exact f1.trans (.only ((((((Only.refl F.b _).setCell _ _).setCell _ _).setCell _ _).setCell _ _).setCell _ _) (.inl rfl))
theorem run_clear_struct {P : Program} (w : World) (t e ty : TypeId) (z : Value) (zs : List Value) (ht : P.underlying t = some (.slice e)) (hv : ∀ w, (zeroValue e).run P w = .ok z w) (b o n c : Nat) (hn : 0 < n) (hz : (Builtin.zeroCells z.cells n).toList = zs) (h1 : ∀ v ∈ zs, v.oneCell' = true)
  (hc : ∀ j, j < zs.length → (w.cell? ⟨b, o + j, none⟩).isSome = true) (hf : ∀ j, j < zs.length → w.frozen? ⟨b, o + j, none⟩ = false) :
  (Builtin.clear_ #[t] ty #[.slice (some ⟨b, o, none⟩) n c]).run P w = .ok (.tuple #[]) (w.setCells b o zs) := by
 have hst := run_storeCells_cells (P := P) b o zs 0 w (by simpa using hc) (by simpa using hf) h1
 simp only [Nat.add_zero] at hst
 obtain ⟨m, rfl⟩ : ∃ m, n = m + 1 := ⟨n - 1, by omega⟩
 simp [Builtin.clear_, run_underlying ht, hv, hz, hst]
theorem delete_same (w : World) (a : Option Addr) (n cap : Nat) (hc : n ≤ cap) : Calls Tryz.prog 135 #[.slice a n cap, .int .i64 n, .int .i64 n] w fun e w' => e = .returned (.slice a n cap) ∧ w = w' := by
 go_enter Tryz.func135, Tryz.ntmps135
 go_wp2
 all_goals (go_ret; exact ⟨rfl, rfl⟩)
theorem delete_end (w : World) (g n N cap : Nat) (zs : List Value) (hn : n < N) (hN : N ≤ cap) (hcap : cap ≤ maxLen) (hz : (Builtin.zeroCells (Value.agg #[.string ⟨#[]⟩, .string ⟨#[]⟩, .pointer none]).cells (N - n)).toList = zs) (h1 : ∀ v ∈ zs, v.oneCell' = true)
  (hc : ∀ j, j < zs.length → (w.cell? ⟨g, n * 3 + j, none⟩).isSome = true) (hf : ∀ j, j < zs.length → w.frozen? ⟨g, n * 3 + j, none⟩ = false) :
  Calls Tryz.prog 135 #[.slice (some ⟨g, 0, none⟩) N cap, .int .i64 n, .int .i64 N] w fun e w' => e = .returned (.slice (some ⟨g, 0, none⟩) n cap) ∧ ∃ k, w' = (w.drewN k).setCells g (n * 3) zs := by
 obtain ⟨i0, hi, hz0, hz1, hz2⟩ := info_parts infoSec
 have hcl : ∀ k ty, (Builtin.clear_ #[144] ty #[.slice (some ⟨g, n * 3, none⟩) (N - n) (cap - n)]).run Tryz.prog (w.drewN k) = .ok (.tuple #[]) ((w.drewN k).setCells g (n * 3) zs) :=
  fun k ty => run_clear_struct (w.drewN k) 144 143 ty (.agg #[.string ⟨#[]⟩, .string ⟨#[]⟩, .pointer none]) zs Tryz.underlying144 (fun w => by kernel_rfl) g (n * 3) (N - n) (cap - n) (by omega) hz h1 hc hf
 have k1 : ((n : Int) == (N : Int)) = false := by simp; omega
 have k2 : ¬ N = n := by omega
 have k3 : ¬ cap = n := by omega
 have b1 : (n : Int) ≤ (N : Int) := by omega
 have k4 : n ≤ cap := by omega
 have b2 : (N : Int) ≤ (cap : Int) := by omega
 have hcl1 : ∀ ty, (Builtin.clear_ #[144] ty #[.slice (some ⟨g, n * 3, none⟩) (N - n) (cap - n)]).run Tryz.prog w.drew = .ok (.tuple #[]) (w.drew.setCells g (n * 3) zs) := hcl 1
 unfold maxLen at hcap
 by_cases he : cap = N
 ·subst he
  clear hc hf h1 hz hcl
  go_enter Tryz.func135, Tryz.ntmps135
  go_wp2_with fail
  go_region_law (refine step_append_room rfl (.tmp 22) (.tmp 25) 144 rfl 143 i0 3 Tryz.underlying144 hi hz1 g 0 n cap (by simp [Act.eval, Act.put]) ⟨g, 0, none⟩ 0 0 [] (by simp [Act.eval, Act.put]) rfl (by intro j u hu; simp at hu) (by intro u hu; simp at hu) (by omega) (by intro j hj; simp at hj) ?_; simp only [World.setCells, Nat.add_zero])
  go_wp2
  go_ret
  exact ⟨rfl, 1, rfl⟩
 ·clear hc hf h1 hz hcl
  go_enter Tryz.func135, Tryz.ntmps135
  go_wp2_with fail
  go_region_law (refine step_append_room rfl (.tmp 22) (.tmp 25) 144 rfl 143 i0 3 Tryz.underlying144 hi hz1 g 0 n cap (by simp [Act.eval, Act.put]) ⟨g, N * 3, none⟩ 0 (cap - N) [] (by simp [Act.eval, Act.put]) rfl (by intro j u hu; simp at hu) (by intro u hu; simp at hu) (by omega) (by intro j hj; simp at hj) ?_; simp only [World.setCells, Nat.add_zero])
  go_wp2
  go_ret
  exact ⟨rfl, 1, rfl⟩
theorem only_setCells (g : Nat) : ∀ (vs : List Value) (o : Nat) (w : World), Only g w (w.setCells g o vs)
 | [], _, w => Only.refl g w
 | v :: r, o, w => ((Only.refl g w).setCell o v).trans (only_setCells g r (o + 1) _)
theorem at_setCells (g : Nat) (t : TypeId) : ∀ (vs : List Value) (o : Nat) (w : World) (cur : Array Value), w.heap[g]? = some (.cells cur t (0, 0)) →
  ∃ cur', (w.setCells g o vs).heap[g]? = some (.cells cur' t (0, 0)) ∧ cur'.size = cur.size ∧ ∀ i, i < o → cur'[i]? = cur[i]?
 | [], _, w, cur, h => ⟨cur, h, rfl, fun _ _ => rfl⟩
 | v :: r, o, w, cur, h => by
  obtain ⟨cur', h1, h2, h3⟩ := at_setCells g t r (o + 1) _ _ (set_at h o v)
  refine ⟨cur', h1, by rw [h2, Array.size_setIfInBounds], fun i hi => ?_⟩
  rw [h3 i (by omega), Array.getElem?_setIfInBounds, if_neg (by omega)]
theorem zeros_one (n : Nat) : ∀ v ∈ (Builtin.zeroCells (Value.agg #[.string ⟨#[]⟩, .string ⟨#[]⟩, .pointer none]).cells n).toList, v.oneCell' = true := by
 intro v hv
 have hv2 : v ∈ Builtin.zeroCells (Value.agg #[.string ⟨#[]⟩, .string ⟨#[]⟩, .pointer none]).cells n := by simpa using hv
 obtain ⟨i, hi, rfl⟩ := Array.mem_iff_getElem.1 hv2
 have hz : (Value.agg #[.string ⟨#[]⟩, .string ⟨#[]⟩, .pointer none]).cells = #[.string ⟨#[]⟩, .string ⟨#[]⟩, .pointer none] := rfl
 simp only [Builtin.zeroCells, hz] at hi ⊢
 have h3 : i % 3 = 0 ∨ i % 3 = 1 ∨ i % 3 = 2 := by omega
 rcases h3 with h | h | h <;> simp [h, Value.oneCell']
theorem owns_cut {w : World} {g n N cap : Nat} {secs : List Sec} (h : w.ownsRow 0 143 3 (.slice (some ⟨g, 0, none⟩) N cap) N (secsCells secs)) (hn : n < N) :
  Calls Tryz.prog 135 #[.slice (some ⟨g, 0, none⟩) N cap, .int .i64 n, .int .i64 N] w fun e w' => e = .returned (.slice (some ⟨g, 0, none⟩) n cap) ∧ w'.ownsRow 0 143 3 (.slice (some ⟨g, 0, none⟩) n cap) n (secsCells (secs.take n)) ∧ Only g w w' := by
 obtain ⟨hc1, hc2⟩ := owns_cap h
 have hl : secs.length = N := by have := h.1; rw [secs_length] at this; omega
 rcases h.2 with ⟨h0, _⟩ | ⟨g', cap', cur, h0, h1, h2, h3, h4, h5, h6⟩
 ·simp at h0
 simp only [Value.slice.injEq, Option.some.injEq, Addr.mk.injEq] at h0
 obtain ⟨⟨rfl, _⟩, _, rfl⟩ := h0
 have hzl : (Builtin.zeroCells (Value.agg #[.string ⟨#[]⟩, .string ⟨#[]⟩, .pointer none]).cells (N - n)).toList.length = (N - n) * 3 := by
  rw [Array.length_toList, size_zeroCells]; rfl
 refine (delete_end w g n N cap _ hn hc1 hc2 rfl (zeros_one _) (fun j hj => ?_) (fun j _ => free_at h2 _)).mono ?_
 ·rw [hzl] at hj
  rw [cell_at h2, Array.getElem?_eq_getElem (by omega)]
  rfl
 ·rintro e w' ⟨rfl, k, rfl⟩
  obtain ⟨cur', q1, q2, q3⟩ := at_setCells g 143 (Builtin.zeroCells (Value.agg #[.string ⟨#[]⟩, .string ⟨#[]⟩, .pointer none]).cells (N - n)).toList (n * 3) (w.drewN k) cur h2
  refine ⟨rfl, ⟨by rw [secs_length, List.length_take]; omega, .inr ⟨g, cap, cur', rfl, Nat.zero_le _, q1, by omega, hc2, by rw [q2]; exact h5, ?_⟩⟩, ((Only.refl g w).drewN k).trans (only_setCells g _ _ _)⟩
  have e1 : secsCells (secs.take n) = (secsCells secs).take (n * 3) := by
   have e2 : secsCells secs = secsCells (secs.take n) ++ secsCells (secs.drop n) := by rw [← secs_app, List.take_append_drop]
   conv => rhs; rw [e2]
   rw [List.take_append_of_le_length (by rw [secs_length, List.length_take]; omega)]
   exact (List.take_of_length_le (by rw [secs_length, List.length_take]; omega)).symm
  rw [e1, ← h6, List.take_take, show min (n * 3) (N * 3) = n * 3 by omega]
  apply List.ext_getElem?
  intro i
  rw [List.getElem?_take, List.getElem?_take]
  split
  ·rw [Array.getElem?_toList, Array.getElem?_toList, q3 i (by assumption)]
  ·rfl
theorem lst_mem : ∀ {l : List Wr} {p : Option Nat} {b : Nat}, lst p l = some b → p = some b ∨ ∃ l' x, l = l' ++ [x] ∧ x.b = b := by
 intro l p b h
 by_cases hn : l = []
 ·subst hn; exact .inl h
 ·obtain ⟨l', x, e, h2⟩ := lst_some (p := p) hn
  rw [h2] at h
  exact .inr ⟨l', x, e, by simpa using h⟩
theorem lastAt_some {ws : List Wr} {i b : Nat} (h : lastAt ws i = some b) : ∃ l1 x l2, ws = l1 ++ x :: l2 ∧ x.b = b ∧ x.pos = i ∧ ∀ y ∈ l2, y.pos ≠ i := by
 unfold lastAt at h
 rcases lst_mem h with h | ⟨l', x, e, rfl⟩
 ·cases h
 ·obtain ⟨l1, l2, e0, e1, e2⟩ := List.filter_eq_append_iff.1 e
  obtain ⟨m1, m2, e3, e4, e5, e6⟩ := List.filter_eq_cons_iff.1 e2
  refine ⟨l1 ++ m1, x, m2, by rw [e0, e3]; simp, rfl, by simpa using e5, fun y hy => ?_⟩
  have := List.filter_eq_nil_iff.1 e6 y hy
  simpa using this
theorem lastAt_nothing {ws : List Wr} {i : Nat} (h : lastAt ws i = none) : ∀ x ∈ ws, x.pos ≠ i := by
 intro x hx e
 unfold lastAt at h
 have hm : x ∈ ws.filter (·.pos == i) := List.mem_filter.2 ⟨hx, by simpa using e⟩
 obtain ⟨l', z, e1, e2⟩ := lst_some (p := none) (List.ne_nil_of_mem hm)
 rw [h] at e2
 cases e2
theorem lastAt_drop {l1 l2 : List Wr} {x : Wr} (hl : ∀ y ∈ l2, y.pos ≠ x.pos) : lastAt (l1 ++ l2) x.pos = lastAt l1 x.pos := by
 unfold lastAt
 have h2 : l2.filter (·.pos == x.pos) = [] := List.filter_eq_nil_iff.2 (fun y hy => by simpa using hl y hy)
 rw [List.filter_append, h2, List.append_nil]
theorem lastAt_other {l1 l2 : List Wr} {x : Wr} {i : Nat} (hi : x.pos ≠ i) : lastAt (l1 ++ x :: l2) i = lastAt (l1 ++ l2) i := by
 unfold lastAt
 rw [List.filter_append, List.filter_append, List.filter_cons_of_neg (by simpa using hi)]
theorem UnderOk.drop {l1 l2 : List Wr} {x : Wr} (h : UnderOk (l1 ++ x :: l2)) (hl : ∀ y ∈ l2, y.pos ≠ x.pos) : UnderOk (l1 ++ l2) := by
 intro l y r e
 rcases List.append_eq_append_iff.1 e with ⟨a, e1, e2⟩ | ⟨a, e1, e2⟩
 ·-- l = l1 ++ a, l2 = a ++ y :: r
  have e3 : l1 ++ x :: l2 = (l1 ++ x :: a) ++ y :: r := by rw [e2]; simp
  have := h _ _ _ e3
  rw [this, e1]
  exact lastAt_other (fun e4 => hl y (by rw [e2]; simp) e4.symm)
 ·cases a with
  | nil =>
   rw [List.append_nil] at e1
   subst e1
   have e3 : l1 ++ x :: l2 = (l1 ++ [x]) ++ y :: r := by rw [List.append_assoc]; congr 1; simpa using e2.symm
   have := h _ _ _ e3
   rw [this, lastAt_snoc, if_neg]
   exact fun e4 => hl y (by simp at e2; rw [← e2]; simp) e4.symm
  | cons z a =>
   simp only [List.cons_append, List.cons.injEq] at e2
   obtain ⟨rfl, rfl⟩ := e2
   exact h l y (a ++ x :: l2) (by rw [e1]; simp)
structure CutSt (w : World) (F : Fl) (ws : List Wr) (wr : World) : Prop where
 blk : wr.heap[F.b]? = some (.cells ({ F with ws := ws } : Fl).cells 148 (0, 0))
 seg : Seg wr none ws none
 row : wr.ownsRow 0 143 3 F.sl F.secs.length (secsCells F.secs)
 fr : Fr (fun k => k = F.b ∨ ∃ x ∈ F.ws, x.b = k) w wr
 nodup : (ws.map (·.b)).Nodup
 under : UnderOk ws
 sub : ∀ x ∈ ws, x ∈ F.ws
theorem CutSt.below {w wr w' : World} {F : Fl} {ws : List Wr} (h : CutSt w F ws wr) (hb : Below wr.heap.size wr w') : CutSt w F ws w' :=
 ⟨old_below h.blk hb, seg_keep h.seg (fun x hx => hb.block _ (seg_lt h.seg x hx)), owns_keep h.row (fun g hg => hb.block g (h.row.lt g hg).2), h.fr.trans (.of hb), h.nodup, h.under, h.sub⟩
theorem CutSt.drop {w wr : World} {F : Fl} (hw : FileAt w F) {l1 l2 : List Wr} {x : Wr} (h : CutSt w F (l1 ++ x :: l2) wr) (hl : ∀ y ∈ l2, y.pos ≠ x.pos) (hfew : (l1 ++ x :: l2).length ≤ 100000) :
  Calls Tryz.prog 134 #[.pointer (some ⟨F.b, 3, none⟩), .pointer (some ⟨x.b, 0, none⟩)] wr fun e w' => e = .returned (.tuple #[]) ∧ CutSt w F (l1 ++ l2) w' ∧ w'.heap[x.b]? = wr.heap[x.b]? := by
 obtain ⟨hne, hnd⟩ := map_split h.nodup
 refine (drop_any wr (n := (l1 ++ x :: l2).length) h.blk rfl rfl rfl h.seg h.nodup (by simp; omega) hfew).mono ?_
 rintro e w' ⟨rfl, hD⟩
 have hxb : x.b ≠ F.b := by
  obtain ⟨_, _, hx⟩ := seg_mem h.seg x (by simp)
  exact block_ne hx h.blk (by decide)
 refine ⟨rfl, ⟨?_, hD.seg, ?_, ?_, hnd, h.under.drop hl, fun y hy => h.sub y (by rcases List.mem_append.1 hy with hy | hy <;> simp [hy])⟩, ?_⟩
 ·rw [hD.blk]
  have : ((l1 ++ x :: l2).length : Int) - 1 = ((l1 ++ l2).length : Int) := by simp; omega
  rw [this]
  rfl
 ·refine owns_fr h.row hD.fr (fun g hg hk => ?_)
  rcases hk with rfl | ⟨y, hy, rfl⟩
  ·exact hw.ne_row.1 F.b hg rfl
  ·exact hw.ne_row.2 y.b hg y (h.sub y (by rcases List.mem_append.1 hy with hy | hy <;> simp [hy])) rfl
 ·refine h.fr.trans (hD.fr.mono fun k _ hk => ?_)
  rcases hk with rfl | ⟨y, hy, rfl⟩
  ·exact .inl rfl
  ·exact .inr ⟨y, h.sub y (by rcases List.mem_append.1 hy with hy | hy <;> simp [hy]), rfl⟩
 ·obtain ⟨_, _, hx⟩ := seg_mem h.seg x (by simp)
  exact hD.fr.block x.b (lt_of_block hx) (fun hk => by
   rcases hk with e | ⟨y, hy, e⟩
   ·exact hxb e
   ·exact hne y hy e)
def outOf (n i : Nat) (ws : List Wr) : List Wr := ws.filter (fun x => decide (x.pos < n ∨ n + i ≤ x.pos))
theorem out_zero (n : Nat) (ws : List Wr) : outOf n 0 ws = ws := List.filter_eq_self.2 (fun x _ => by simp; omega)
theorem out_step (n i : Nat) (ws : List Wr) : (outOf n i ws).filter (fun x => x.pos != n + i) = outOf n (i + 1) ws := by
 unfold outOf
 rw [List.filter_filter]
 apply List.filter_congr
 intro x _
 rw [Bool.eq_iff_iff]
 simp only [Bool.and_eq_true, bne_iff_ne, ne_eq, decide_eq_true_eq]
 omega
theorem out_all (n m : Nat) (ws : List Wr) (h : ∀ x ∈ ws, x.pos < n + m) : outOf n m ws = ws.filter (fun x => decide (x.pos < n)) := by
 unfold outOf
 apply List.filter_congr
 intro x hx
 have := h x hx
 simp
 omega
theorem out_last (n i : Nat) (ws : List Wr) : lastAt (outOf n i ws) (n + i) = lastAt ws (n + i) :=
 lastAt_filter (fun k => decide (k < n ∨ n + i ≤ k)) ws (n + i) (by simp)
theorem filter_stays {ws vs : List Wr} {i : Nat} (h : vs.filter (fun x => x.pos != i) = ws.filter (fun x => x.pos != i)) (hn : lastAt vs i = none) : vs = ws.filter (fun x => x.pos != i) := by
 rw [← h]
 exact (List.filter_eq_self.2 (fun x hx => by simpa using lastAt_nothing hn x hx)).symm
end Go.Proofs.YtbkngnjkaledlaaGreat.P4
