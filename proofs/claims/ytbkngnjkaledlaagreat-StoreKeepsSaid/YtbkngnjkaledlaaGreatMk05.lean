/-
  Texts of the proof of SaidKeeps8, side by side: Dk4.
-/
import Derived.Test.YtbkngnjkaledlaaGreatMk04
/-
  Package disk: a write on a file, in a file's words. (Disk, part 4.)
-/
namespace Go.Proofs.YtbkngnjkaledlaaGreat.P4
open Go Go.RowKit Go.Lib Go.Proofs.YtbkngnjkaledlaaGreat.P3

theorem set_same {α : Type} : ∀ (l : List α) (i : Nat) (a : α), l[i]? = some a → l.set i a = l
  | [], _, _, _ => rfl
  | x :: r, 0, a, h => by
    obtain rfl : x = a := by simpa using h
    rfl
  | x :: r, i + 1, a, h => by
    rw [List.set_cons_succ, set_same r i a (by simpa using h)]
theorem modify_set {α : Type} (f : α → α) : ∀ (l : List α) (i : Nat) (a : α), l[i]? = some a → l.modify i f = l.set i (f a)
  | [], _, _, h => by simp at h
  | x :: r, 0, a, h => by
    obtain rfl : x = a := by simpa using h
    rfl
  | x :: r, i + 1, a, h => by
    have := modify_set f r i a (by simpa using h)
    rw [List.set_cons_succ, ← this]
    rfl
theorem secs_now_top (l : List Sec) (i : Nat) (s : Sec) (h : l[i]? = some s) (d : ByteArray) (o : Option Nat) :
    secsCells (l.modify i fun s => ⟨d, s.safe, o⟩) = ((secsCells l).set (i * 3) (.string d)).set (i * 3 + 2) (ptr o) := by
  have h1 := (secs_at l i s h).2.1
  rw [modify_set _ l i s h, secs_set l i s h]
  rw [set_same (((secsCells l).set (i * 3) (.string d))) (i * 3 + 1) (.string s.safe) (by rw [List.getElem?_set, if_neg (by omega)]; exact h1)]
theorem secs_now (l : List Sec) (i : Nat) (s : Sec) (h : l[i]? = some s) (d : ByteArray) :
    secsCells (l.modify i fun s => ⟨d, s.safe, s.top⟩) = (secsCells l).set (i * 3) (.string d) := by
  obtain ⟨_, h1, h2⟩ := secs_at l i s h
  rw [modify_set _ l i s h, secs_set l i s h]
  rw [set_same (((secsCells l).set (i * 3) (.string d))) (i * 3 + 1) (.string s.safe) (by rw [List.getElem?_set, if_neg (by omega)]; exact h1)]
  rw [set_same (((secsCells l).set (i * 3) (.string d))) (i * 3 + 2) (ptr s.top) (by rw [List.getElem?_set, if_neg (by omega)]; exact h2)]
theorem secs_sync (l : List Sec) (i : Nat) (s : Sec) (h : l[i]? = some s) :
    secsCells (l.modify i Sec.sync) = ((secsCells l).set (i * 3 + 1) (.string s.now)).set (i * 3 + 2) (.pointer none) := by
  have h1 := (secs_at l i s h).1
  rw [modify_set _ l i s h, secs_set l i s h]
  show (((secsCells l).set (i * 3) (.string s.now)).set (i * 3 + 1) (.string s.now)).set (i * 3 + 2) (.pointer none) = _
  rw [set_same (secsCells l) (i * 3) (.string s.now) h1]

/-- what a write leaves -/
structure Wrote (w w' : World) (F : Fl) (sl : Value) (b t i : Nat) (d : ByteArray) : Prop where
  at' : FileAt w' (F.write sl b t i d)
  new : w.heap.size ≤ b
  row : ∀ g, sl.ownBlock = some g → F.sl.ownBlock = some g ∨ w.heap.size ≤ g
  fr : Fr F.foot w w'

theorem cells6 (a b c d e f x y z : Value) : (((#[a, b, c, d, e, f] : Array Value).setIfInBounds 3 x).setIfInBounds 4 y).setIfInBounds 5 z = #[a, b, c, x, y, z] := rfl

theorem FileAt.write {w : World} {F : Fl} (h : FileAt w F) (ok : FileOk F) (t i : Nat) (d : ByteArray) (hi : i ≤ F.secs.length) (hf : F.ws.length < 10000) :
    Calls Tryz.prog 96 #[.pointer (some ⟨F.b, 0, none⟩), .int .i64 t, .int .i64 i, .string d] w fun e w' => e = .returned (.tuple #[]) ∧ ∃ sl b, Wrote w w' F sl b t i d := by
  have hroom := ok.room
  have hbl := lt_of_block h.blk
  by_cases he : i = F.secs.length
  · subst he
    obtain ⟨a, cap, hv⟩ := owns_shape h.row
    have hne : ∀ x ∈ F.ws, x.pos ≠ F.secs.length := fun x hx => by have := ok.pos x hx; omega
    have hbg : ∀ g, F.sl.ownBlock = some g → F.b ≠ g := by
      intro g hg
      rw [hv] at hg
      cases a with
      | none => cases hg
      | some a =>
        have hr := h.row
        rcases hr.2 with ⟨h0, _⟩ | ⟨g', cap', cur, h0, h1, h2, _⟩
        · rw [h0] at hv; cases hv
        · rw [h0] at hv
          simp only [Value.slice.injEq, Option.some.injEq] at hv
          obtain ⟨rfl, _⟩ := hv
          obtain rfl : g' = g := by simpa [Value.ownBlock] using hg
          exact block_ne h.blk h2 (by decide)
    have hgrow : ∀ g cap' w4, Grown1 w F.sl F.secs.length (secsCells F.secs) g cap' w4 → w4.heap[F.b]? = some (.cells F.cells 148 (0, 0)) ∧ F.b ≠ g ∧ (∀ k, k < w.heap.size → F.sl.ownBlock ≠ some k → w4.heap[k]? = w.heap[k]?) := by
      intro g cap' w4 hG
      have h1 : F.b ≠ g := by
        rcases hG.lies with e | e
        · exact hbg g e
        · omega
      refine ⟨?_, h1, fun k hk hn => hG.grown.block k hk (fun e => hn e.symm)⟩
      rw [hG.grown.block F.b hbl (fun e => hbg F.b e.symm rfl)]
      exact h.blk
    have hwn : ∀ x ∈ F.ws, F.sl.ownBlock ≠ some x.b := by
      intro x hx e
      obtain ⟨_, _, hx'⟩ := seg_mem h.seg x hx
      rcases h.row.2 with ⟨h0, _⟩ | ⟨g', cap', cur, h0, h1, h2, _⟩
      · rw [h0] at e; cases e
      · rw [h0] at e
        obtain rfl : g' = x.b := by simpa [Value.ownBlock] using e
        exact block_ne hx' h2 (by decide) rfl
    refine (write_new0 w F.b F.secs.length F.sl a cap (secsCells F.secs) t d hv (by omega) ((cell_at h.blk 0).trans rfl) h.row
      (fun g cap' w4 w2 => w2.heap[F.b]? = some (.cells (#[.slice (some ⟨g, 0, none⟩) (F.secs.length + 1) cap', .int .i64 F.ns, .bool F.stays, ptr (hd (F.ws ++ [⟨w4.heap.size, t, F.secs.length, d, 0, none⟩]) none), ptr (some w4.heap.size), .int .i64 ((F.ws.length : Int) + 1)]) 148 (0, 0)) ∧
        Seg w2 none (F.ws ++ [⟨w4.heap.size, t, F.secs.length, d, 0, none⟩]) none ∧ Grown1 w F.sl F.secs.length (secsCells F.secs) g cap' w4 ∧ Fr (fun k => k = F.b ∨ ∃ y ∈ F.ws ++ [⟨w4.heap.size, t, F.secs.length, d, 0, none⟩], y.b = k) w4 w2)
      (fun g cap' w4 hG => ?_) (fun g cap' w4 hG => ?_) (fun g cap' w4 w2 hq => ?_)).mono ?_
    · obtain ⟨q1, q2, _⟩ := hgrow g cap' w4 hG
      exact ⟨free_at q1 0, ⟨_, cell_at q1 0⟩, q2⟩
    · obtain ⟨q1, q2, q3⟩ := hgrow g cap' w4 hG
      have q4 := old_alloc (set_at q1 0 (.slice (some ⟨g, 0, none⟩) (F.secs.length + 1) cap')) (.cells #[.int .i64 t, .int .i64 F.secs.length, .string d, .int .i64 0, .pointer none, .pointer none, .pointer none] 123)
      have hsz : (w4.setCell ⟨F.b, 0, none⟩ (.slice (some ⟨g, 0, none⟩) (F.secs.length + 1) cap')).heap.size = w4.heap.size := by simp [World.setCell]
      have hlt := hG.grown.size
      have hx : WrAt ((w4.setCell ⟨F.b, 0, none⟩ (.slice (some ⟨g, 0, none⟩) (F.secs.length + 1) cap')).alloc (.cells #[.int .i64 t, .int .i64 F.secs.length, .string d, .int .i64 0, .pointer none, .pointer none, .pointer none] 123)) ⟨w4.heap.size, t, F.secs.length, d, 0, none⟩ none none := by
        have := new_at (w4.setCell ⟨F.b, 0, none⟩ (.slice (some ⟨g, 0, none⟩) (F.secs.length + 1) cap')) #[.int .i64 t, .int .i64 F.secs.length, .string d, .int .i64 0, .pointer none, .pointer none, .pointer none] 123
        rw [hsz] at this
        exact this
      have hs : Seg ((w4.setCell ⟨F.b, 0, none⟩ (.slice (some ⟨g, 0, none⟩) (F.secs.length + 1) cap')).alloc (.cells #[.int .i64 t, .int .i64 F.secs.length, .string d, .int .i64 0, .pointer none, .pointer none, .pointer none] 123)) none F.ws none := by
        refine seg_keep h.seg (fun x hx => ?_)
        have hxl := seg_lt h.seg x hx
        rw [Below.heap_alloc _ _ _ (by rw [hsz]; omega), Below.heap_setCell _ _ _ _ (fun e => ?_)]
        · exact q3 x.b hxl (hwn x hx)
        · obtain ⟨_, _, hx'⟩ := seg_mem h.seg x hx
          exact block_ne hx' h.blk (by decide) e
      refine (add_any _ q4 rfl rfl rfl rfl hs hx ?_ (by omega)).mono ?_
      · rw [List.map_append, List.nodup_append]
        refine ⟨h.nodup, by simp, fun a ha c hc => ?_⟩
        obtain ⟨x, hx1, rfl⟩ := List.mem_map.1 ha
        have := seg_lt h.seg x hx1
        simp at hc
        omega
      · rintro e w2 ⟨rfl, hb2, hs2, hf2⟩
        refine ⟨rfl, hb2, hs2, hG, ?_⟩
        have f0 : Fr (fun k => k = F.b ∨ ∃ y ∈ F.ws ++ [⟨w4.heap.size, t, F.secs.length, d, 0, none⟩], y.b = k) w4 (w4.setCell ⟨F.b, 0, none⟩ (.slice (some ⟨g, 0, none⟩) (F.secs.length + 1) cap')) := .only ((Only.refl F.b w4).setCell 0 _) (.inl rfl)
        exact (f0.trans (.of (below_new _ _))).trans hf2
    · obtain ⟨_, _, hG, hf⟩ := hq
      obtain ⟨q1, q2, q3⟩ := hgrow g cap' w4 hG
      have hgl := owns_lt hG.row
      have hns : ¬ (g = F.b ∨ ∃ y ∈ F.ws ++ [⟨w4.heap.size, t, F.secs.length, d, 0, none⟩], y.b = g) := by
        rintro (e | ⟨y, hy, e⟩)
        · exact q2 e.symm
        · rcases List.mem_append.1 hy with hy | hy
          · subst e
            rcases hG.lies with e | e
            · exact hwn y hy e
            · have := seg_lt h.seg y hy; omega
          · obtain rfl := List.mem_singleton.1 hy
            simp at e
            omega
      have hr := owns_fr hG.row hf (fun g' e => by obtain rfl : g = g' := by simpa [Value.ownBlock] using e
                                                   exact hns)
      have c0 : ∀ j u, noSec[j]? = some u → w2.cell? ⟨g, F.secs.length * 3 + j, none⟩ = some u := fun j u hu =>
        owns_cell hr (by rw [List.getElem?_append_right (by rw [secs_length]; omega), secs_length, show F.secs.length * 3 + j - F.secs.length * 3 = j by omega]; exact hu)
      exact ⟨⟨_, c0 0 _ rfl⟩, ⟨_, c0 2 _ rfl⟩, owns_free hr _, owns_free hr _⟩
    · rintro e w' ⟨rfl, g, cap', w4, w2, hG, ⟨hb2, hs2, _, hf2⟩, rfl⟩
      obtain ⟨q1, q2, q3⟩ := hgrow g cap' w4 hG
      have hgl := owns_lt hG.row
      have hlt := hG.grown.size
      have hns : ¬ (g = F.b ∨ ∃ y ∈ F.ws ++ [⟨w4.heap.size, t, F.secs.length, d, 0, none⟩], y.b = g) := by
        rintro (e | ⟨y, hy, e⟩)
        · exact q2 e.symm
        · rcases List.mem_append.1 hy with hy | hy
          · subst e
            rcases hG.lies with e | e
            · exact hwn y hy e
            · have := seg_lt h.seg y hy; omega
          · obtain rfl := List.mem_singleton.1 hy
            simp at e
            omega
      have hr := owns_fr hG.row hf2 (fun g' e => by obtain rfl : g = g' := by simpa [Value.ownBlock] using e
                                                    exact hns)
      have hr2 := owns_set (owns_set hr (F.secs.length * 3) (.string d)) (F.secs.length * 3 + 2) (.pointer (some ⟨w4.heap.size, 0, none⟩))
      have hF : F.write (.slice (some ⟨g, 0, none⟩) (F.secs.length + 1) cap') w4.heap.size t F.secs.length d = { F with sl := .slice (some ⟨g, 0, none⟩) (F.secs.length + 1) cap', secs := F.secs ++ [⟨d, ⟨#[]⟩, some w4.heap.size⟩], ws := F.ws ++ [⟨w4.heap.size, t, F.secs.length, d, 0, none⟩] } := by
        unfold Fl.write
        rw [if_pos rfl, lastAt_none hne]
      refine ⟨rfl, .slice (some ⟨g, 0, none⟩) (F.secs.length + 1) cap', w4.heap.size, ?_, hlt, fun g' e => ?_, ?_⟩
      · rw [hF]
        refine ⟨?_, ?_, ?_, ?_⟩
        · rw [Below.heap_setCell _ _ _ _ q2, Below.heap_setCell _ _ _ _ q2, hb2]
          unfold Fl.cells
          rw [lst_snoc, List.length_append]
          rfl
        · have e1 : secsCells (F.secs ++ [(⟨d, ⟨#[]⟩, some w4.heap.size⟩ : Sec)]) = (((secsCells F.secs ++ noSec).set (F.secs.length * 3) (.string d)).set (F.secs.length * 3 + 2) (.pointer (some ⟨w4.heap.size, 0, none⟩))) := by
            rw [secs_app, ← secs_length, List.set_append_right _ _ (Nat.le_refl _), List.set_append_right _ _ (Nat.le_add_right _ _), Nat.sub_self, show (secsCells F.secs).length + 2 - (secsCells F.secs).length = 2 by omega]
            rfl
          show World.ownsRow _ _ _ _ _ (F.secs ++ [(⟨d, ⟨#[]⟩, some w4.heap.size⟩ : Sec)]).length (secsCells (F.secs ++ [(⟨d, ⟨#[]⟩, some w4.heap.size⟩ : Sec)]))
          rw [e1, List.length_append]
          exact hr2
        · refine seg_keep hs2 (fun x hx => ?_)
          have hxg : x.b ≠ g := fun e => hns (.inr ⟨x, hx, e⟩)
          rw [Below.heap_setCell _ _ _ _ hxg, Below.heap_setCell _ _ _ _ hxg]
        · show ((F.ws ++ [_] : List Wr).map (·.b)).Nodup
          rw [List.map_append, List.nodup_append]
          refine ⟨h.nodup, by simp, fun a ha c hc => ?_⟩
          obtain ⟨x, hx1, rfl⟩ := List.mem_map.1 ha
          have := seg_lt h.seg x hx1
          simp at hc
          omega
      · obtain rfl : g = g' := by simpa [Value.ownBlock] using e
        exact hG.lies
      · have f1 : Fr (fun k => F.foot k ∨ w.heap.size ≤ k) w w4 := ⟨hG.grown.os, hG.grown.tape, hG.grown.output, hG.grown.size, fun k hk hn => q3 k hk (fun e => hn (.inl (.inr (.inl e))))⟩
        have f2 : Fr (fun k => F.foot k ∨ w.heap.size ≤ k) w4 w2 := hf2.mono (fun k _ hk => by
          rcases hk with rfl | ⟨y, hy, rfl⟩
          · exact .inl (.inl rfl)
          · rcases List.mem_append.1 hy with hy | hy
            · exact .inl (.inr (.inr ⟨y, hy, rfl⟩))
            · obtain rfl := List.mem_singleton.1 hy
              exact .inr hlt)
        have hg' : F.foot g ∨ w.heap.size ≤ g := hG.lies.imp (fun e => .inr (.inl e)) id
        exact (((f1.trans f2).trans (.only ((Only.refl g _).setCell _ _) hg')).trans (.only ((Only.refl g _).setCell _ _) hg')).mono (fun k hk h' => h'.elim id (fun e => by omega))
  · have hil : i < F.secs.length := by omega
    obtain ⟨g, cap, cur, hv, hg, hcap, hmx, hcs, hxs⟩ := owns_some h.row (by omega)
    have hr := h.row
    rw [hv] at hr
    have hgl : g < w.heap.size := lt_of_block hg
    have hbg : F.b ≠ g := block_ne h.blk hg (by decide)
    obtain ⟨s, hs⟩ : ∃ s, F.secs[i]? = some s := ⟨_, List.getElem?_eq_getElem hil⟩
    obtain ⟨s0, s1, s2⟩ := secs_at F.secs i s hs
    obtain ⟨p, hp⟩ := ptr_shape s.top
    have htop := ok.tops i s hs
    have hwn : ∀ x ∈ F.ws, g ≠ x.b := by
      intro x hx e
      obtain ⟨_, _, hx'⟩ := seg_mem h.seg x hx
      exact block_ne hg hx' (by decide) e
    refine (write_old0 w F.b g F.secs.length cap i t d s.now p p hil ((cell_at h.blk 0).trans (by rw [← hv]; rfl)) (owns_cell hr (by rw [s2, hp]))
      (fun w2 => w2.heap[F.b]? = some (.cells (#[F.sl, .int .i64 F.ns, .bool F.stays, ptr (hd (F.ws ++ [⟨w.heap.size, t, i, d, 0, s.top⟩]) none), ptr (some w.heap.size), .int .i64 ((F.ws.length : Int) + 1)]) 148 (0, 0)) ∧
        Seg w2 none (F.ws ++ [⟨w.heap.size, t, i, d, 0, s.top⟩]) none ∧ Fr (fun k => k = F.b ∨ ∃ y ∈ F.ws ++ [⟨w.heap.size, t, i, d, 0, s.top⟩], y.b = k) w w2) ?_ (fun w2 hq => ?_)).mono ?_
    · have q4 := old_alloc h.blk (.cells #[.int .i64 t, .int .i64 i, .string d, .int .i64 0, .pointer none, .pointer none, .pointer p] 123)
      have hx : WrAt (w.alloc (.cells #[.int .i64 t, .int .i64 i, .string d, .int .i64 0, .pointer none, .pointer none, .pointer p] 123)) ⟨w.heap.size, t, i, d, 0, s.top⟩ none none := by
        unfold WrAt Wr.cells
        rw [hp]
        exact new_at w _ _
      have hs : Seg (w.alloc (.cells #[.int .i64 t, .int .i64 i, .string d, .int .i64 0, .pointer none, .pointer none, .pointer p] 123)) none F.ws none := seg_keep h.seg (fun x hx => Below.heap_alloc _ _ _ (seg_lt h.seg x hx))
      refine (add_any _ q4 rfl rfl rfl rfl hs hx ?_ (by omega)).mono ?_
      · rw [List.map_append, List.nodup_append]
        refine ⟨h.nodup, by simp, fun a ha c hc => ?_⟩
        obtain ⟨x, hx1, rfl⟩ := List.mem_map.1 ha
        have := seg_lt h.seg x hx1
        simp at hc
        omega
      · rintro e w2 ⟨rfl, hb2, hs2, hf2⟩
        exact ⟨rfl, hb2, hs2, (Fr.of (below_new _ _)).trans hf2⟩
    · obtain ⟨_, _, hf⟩ := hq
      have hns : ¬ (g = F.b ∨ ∃ y ∈ F.ws ++ [⟨w.heap.size, t, i, d, 0, s.top⟩], y.b = g) := by
        rintro (e | ⟨y, hy, e⟩)
        · exact hbg e.symm
        · rcases List.mem_append.1 hy with hy | hy
          · exact hwn y hy e.symm
          · obtain rfl := List.mem_singleton.1 hy
            simp at e
            omega
      have hr2 := owns_fr hr hf (fun g' e => by obtain rfl : g = g' := by simpa [Value.ownBlock] using e
                                                exact hns)
      exact ⟨owns_cell hr2 s0, owns_cell hr2 (by rw [s2, hp]), owns_free hr2 _, owns_free hr2 _⟩
    · rintro e w' ⟨rfl, w2, ⟨hb2, hs2, hf2⟩, rfl⟩
      have hns : ¬ (g = F.b ∨ ∃ y ∈ F.ws ++ [⟨w.heap.size, t, i, d, 0, s.top⟩], y.b = g) := by
        rintro (e | ⟨y, hy, e⟩)
        · exact hbg e.symm
        · rcases List.mem_append.1 hy with hy | hy
          · exact hwn y hy e.symm
          · obtain rfl := List.mem_singleton.1 hy
            simp at e
            omega
      have hr2 := owns_fr hr hf2 (fun g' e => by obtain rfl : g = g' := by simpa [Value.ownBlock] using e
                                                 exact hns)
      have hr3 := owns_set (owns_set hr2 (i * 3) (.string d)) (i * 3 + 2) (ptr (some w.heap.size))
      rw [← secs_now_top F.secs i s hs d (some w.heap.size), ← hv] at hr3
      refine ⟨rfl, F.sl, w.heap.size, ?_, Nat.le_refl _, fun g' e => .inl e, ?_⟩
      · have hF : F.write F.sl w.heap.size t i d = { F with secs := F.secs.modify i (fun s => ⟨d, s.safe, some w.heap.size⟩), ws := F.ws ++ [⟨w.heap.size, t, i, d, 0, s.top⟩] } := by
          unfold Fl.write
          rw [if_neg he, htop]
        rw [hF]
        refine ⟨?_, ?_, ?_, ?_⟩
        · rw [Below.heap_setCell _ _ _ _ hbg, Below.heap_setCell _ _ _ _ hbg, hb2]
          unfold Fl.cells
          rw [lst_snoc, List.length_append]
          rfl
        · show World.ownsRow _ _ _ _ _ (F.secs.modify i _).length (secsCells (F.secs.modify i _))
          rw [List.length_modify]
          exact hr3
        · refine seg_keep hs2 (fun x hx => ?_)
          have hxg : x.b ≠ g := fun e => hns (.inr ⟨x, hx, e⟩)
          rw [Below.heap_setCell _ _ _ _ hxg, Below.heap_setCell _ _ _ _ hxg]
        · show ((F.ws ++ [_] : List Wr).map (·.b)).Nodup
          rw [List.map_append, List.nodup_append]
          refine ⟨h.nodup, by simp, fun a ha c hc => ?_⟩
          obtain ⟨x, hx1, rfl⟩ := List.mem_map.1 ha
          have := seg_lt h.seg x hx1
          simp at hc
          omega
      · have f2 : Fr (fun k => F.foot k ∨ w.heap.size ≤ k) w w2 := hf2.mono (fun k _ hk => by
          rcases hk with rfl | ⟨y, hy, rfl⟩
          · exact .inl (.inl rfl)
          · rcases List.mem_append.1 hy with hy | hy
            · exact .inl (.inr (.inr ⟨y, hy, rfl⟩))
            · obtain rfl := List.mem_singleton.1 hy
              exact .inr (Nat.le_refl _))
        have hg' : F.foot g ∨ w.heap.size ≤ g := .inl (.inr (.inl (by rw [hv]; rfl)))
        exact ((f2.trans (.only ((Only.refl g _).setCell _ _) hg')).trans (.only ((Only.refl g _).setCell _ _) hg')).mono (fun k hk h' => h'.elim id (fun e => by omega))

end Go.Proofs.YtbkngnjkaledlaaGreat.P4
