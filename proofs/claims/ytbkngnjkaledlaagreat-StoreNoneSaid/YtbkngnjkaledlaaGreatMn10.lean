/-
  Texts of the proof of SaidNone8, side by side: Dk9.
-/
import Derived.Test.YtbkngnjkaledlaaGreatMn09
/-
  Package disk: Cut on a file, in a file's words. (Disk, part 9.)
-/
namespace Go.Proofs.YtbkngnjkaledlaaGreat.P4
open Go Go.RowKit Go.Lib Go.Proofs.YtbkngnjkaledlaaGreat.P3

theorem Fl.cut_all (F : Fl) (ok : FileOk F) : F.cut F.sl F.secs.length = F := by
  unfold Fl.cut
  rw [List.take_length, Nat.min_eq_left ok.nsle, List.filter_eq_self.2 (fun x hx => by simpa using ok.pos x hx)]

theorem FileAt.cut {w : World} {F : Fl} (h : FileAt w F) (ok : FileOk F) (n : Nat) (hn : n ≤ F.secs.length) :
    Calls Tryz.prog 100 #[.pointer (some ⟨F.b, 0, none⟩), .int .i64 n] w fun e w' => e = .returned (.tuple #[]) ∧ ∃ sl, FileAt w' (F.cut sl n) ∧ sl.ownBlock = F.sl.ownBlock ∧ Fr F.foot w w' := by
  by_cases he : n = F.secs.length
  · subst he
    refine (cut_none h ok).mono ?_
    rintro e w' ⟨rfl, k, rfl⟩
    have hne : ∀ g, F.sl.ownBlock = some g → g ≠ F.b := fun g hg e => h.ne_row.1 g hg e.symm
    refine ⟨rfl, F.sl, ?_, rfl, .only ((((Only.refl F.b w).drewN k).setCell _ _).setCell _ _) (.inl rfl)⟩
    rw [F.cut_all ok]
    refine ⟨?_, owns_keep h.row (fun g hg => ?_), seg_keep h.seg (fun x hx => ?_), h.nodup⟩
    · have := set_at (set_at (w := w.drewN k) h.blk 0 F.sl) 1 (.int .i64 F.ns)
      rw [this]
      rfl
    · rw [Below.heap_setCell _ _ _ _ (hne g hg), Below.heap_setCell _ _ _ _ (hne g hg)]; rfl
    · obtain ⟨_, _, hx'⟩ := seg_mem h.seg x hx
      have hxb : x.b ≠ F.b := block_ne hx' h.blk (by decide)
      rw [Below.heap_setCell _ _ _ _ hxb, Below.heap_setCell _ _ _ _ hxb]; rfl
  · obtain ⟨g, cap, cur, hv, hg, _⟩ := owns_some h.row (by omega)
    refine (cut_walk h ok n (by omega) g cap hv).mono ?_
    rintro e w' ⟨rfl, wr, w2, hS, hr, ho, rfl⟩
    have hbg : F.b ≠ g := block_ne h.blk hg (by decide)
    have hgb : g ≠ F.b := hbg.symm
    have hl : (F.secs.take n).length = n := by rw [List.length_take]; omega
    refine ⟨rfl, .slice (some ⟨g, 0, none⟩) n cap, ⟨?_, ?_, ?_, hS.nodup⟩, by rw [hv]; rfl, ?_⟩
    · have := set_at (set_at (ho.keep hS.blk hbg) 0 (.slice (some ⟨g, 0, none⟩) n cap)) 1 (.int .i64 (min F.ns n : Nat))
      exact this
    · show World.ownsRow _ _ _ _ _ (F.secs.take n).length (secsCells (F.secs.take n))
      rw [hl]
      refine owns_keep hr (fun g' hg' => ?_)
      have hg2 : (Value.slice (some ⟨g, 0, none⟩) n cap).ownBlock = some g' := hg'
      obtain rfl : g = g' := by simpa [Value.ownBlock] using hg2
      rw [Below.heap_setCell _ _ _ _ hgb, Below.heap_setCell _ _ _ _ hgb]
    · refine seg_keep hS.seg (fun x hx => ?_)
      obtain ⟨_, _, hx'⟩ := seg_mem hS.seg x hx
      have hxb : x.b ≠ F.b := block_ne hx' hS.blk (by decide)
      have hxg : x.b ≠ g := h.ne_row.2 g (by rw [hv]; rfl) x (hS.sub x hx)
      rw [Below.heap_setCell _ _ _ _ hxb, Below.heap_setCell _ _ _ _ hxb]
      exact ho.block _ (lt_of_block hx') hxg
    · have f1 : Fr F.foot w wr := hS.fr.mono (fun k _ hk => hk.imp id (fun e => .inr e))
      exact (f1.trans (.only ho (.inr (.inl (by rw [hv]; rfl))))).trans (.only (((Only.refl F.b _).setCell _ _).setCell _ _) (.inl rfl))

end Go.Proofs.YtbkngnjkaledlaaGreat.P4
