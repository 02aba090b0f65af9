/-
  Package disk: Sync on a file. (Disk, part 5.)
-/
import Derived.Test.YtlgloikhdbmgdaaDk4
import Derived.Deep.LoopGhost
namespace Go.Proofs.Ytlgloikhdbmgdaa.P4
open Go Go.RowKit Go.Lib Go.Proofs.Ytlgloikhdbmgdaa.P3

/-- f at the sectors of the writes -/
def overPos (f : Sec → Sec) (l : List Wr) (secs : List Sec) : List Sec := l.foldl (fun S x => S.modify x.pos f) secs
theorem over_snoc (f : Sec → Sec) (l : List Wr) (x : Wr) (secs : List Sec) : overPos f (l ++ [x]) secs = (overPos f l secs).modify x.pos f := by simp [overPos]
theorem over_length (f : Sec → Sec) : ∀ (l : List Wr) (secs : List Sec), (overPos f l secs).length = secs.length
  | [], _ => rfl
  | x :: r, secs => by
    show (overPos f r (secs.modify x.pos f)).length = _
    rw [over_length f r, List.length_modify]
theorem over_at (f : Sec → Sec) (hf : ∀ s, f (f s) = f s) : ∀ (l : List Wr) (secs : List Sec) (i : Nat), (overPos f l secs)[i]? = if l.any (fun x => x.pos == i) then secs[i]?.map f else secs[i]?
  | [], secs, i => rfl
  | x :: r, secs, i => by
    show (overPos f r (secs.modify x.pos f))[i]? = _
    rw [over_at f hf r, List.getElem?_modify, List.any_cons]
    by_cases e : x.pos = i
    · subst e
      cases hs : secs[x.pos]? <;> simp [hf]
    · have e2 : (x.pos == i) = false := by simpa using e
      rw [e2, Bool.false_or]
      simp [e]

theorem sync_over {F : Fl} (ok : FileOk F) : overPos Sec.sync F.ws F.secs = F.secs.map Sec.sync := by
  apply List.ext_getElem?
  intro i
  rw [over_at Sec.sync (fun _ => rfl), List.getElem?_map]
  split
  · rfl
  · rename_i hno
    cases hs : F.secs[i]? with
    | none => rfl
    | some s =>
      have hne : ∀ x ∈ F.ws, x.pos ≠ i := fun x hx e => hno (List.any_eq_true.2 ⟨x, hx, by simpa using e⟩)
      obtain ⟨_, h2⟩ := ok.clean i s hs hne
      have h3 := ok.tops i s hs
      rw [lastAt_none hne] at h3
      show some s = some s.sync
      unfold Sec.sync
      congr
      cases s
      simp_all

/-- a file whose row holds other sectors; all else as it was -/
structure RowSt (w : World) (F : Fl) (secs : List Sec) (wr : World) : Prop where
  blk : wr.heap[F.b]? = some (.cells F.cells 78 (0, 0))
  seg : Seg wr none F.ws none
  row : wr.ownsRow 0 73 3 F.sl secs.length (secsCells secs)
  fr : Fr (fun k => F.sl.ownBlock = some k) w wr

theorem FileAt.ne_row {w : World} {F : Fl} (h : FileAt w F) : (∀ g, F.sl.ownBlock = some g → F.b ≠ g) ∧ ∀ g, F.sl.ownBlock = some g → ∀ x ∈ F.ws, x.b ≠ g := by
  refine ⟨fun g hg => ?_, fun g hg x hx => ?_⟩ <;>
  · rcases h.row.2 with ⟨h0, _⟩ | ⟨g', cap', cur, h0, h1, h2, _⟩
    · rw [h0] at hg; cases hg
    · rw [h0] at hg
      obtain rfl : g' = g := by simpa [Value.ownBlock] using hg
      first
        | exact block_ne h.blk h2 (by decide)
        | (obtain ⟨_, _, hx'⟩ := seg_mem h.seg x hx
           exact block_ne hx' h2 (by decide))

theorem RowSt.step {w wr : World} {F : Fl} {secs secs' : List Sec} (hw : FileAt w F) (h : RowSt w F secs wr) {g : Nat} (hg : F.sl.ownBlock = some g) {w' : World} (hlen : secs'.length = secs.length) (ho : Only g wr w') (hrow : w'.ownsRow 0 73 3 F.sl secs.length (secsCells secs')) : RowSt w F secs' w' :=
  ⟨ho.keep h.blk (hw.ne_row.1 g hg), seg_keep h.seg (fun x hx => ho.block _ (seg_lt h.seg x hx) (hw.ne_row.2 g hg x hx)), by rw [hlen]; exact hrow, h.fr.trans (.only ho hg)⟩

set_option maxRecDepth 100000 in
set_option maxHeartbeats 1000000 in
theorem sync_walk {w : World} {F : Fl} (h : FileAt w F) (ok : FileOk F) :
    Calls Try.prog 39 #[.pointer (some ⟨F.b, 0, none⟩)] w fun e w' => e = .returned (.tuple #[]) ∧ ∃ wr, RowSt w F (overPos Sec.sync F.ws F.secs) wr ∧
      w' = ((((wr.setCell ⟨F.b, 1, none⟩ (.int .i64 F.secs.length)).setCell ⟨F.b, 2, none⟩ (.bool true)).setCell ⟨F.b, 3, none⟩ (.pointer none)).setCell ⟨F.b, 4, none⟩ (.pointer none)).setCell ⟨F.b, 5, none⟩ (.int .i64 0) := by
  obtain ⟨a0, cap0, hv⟩ := owns_shape h.row
  obtain ⟨p, hp⟩ := ptr_shape (hd F.ws none)
  have c3 : w.cell? ⟨F.b, 3, none⟩ = some (.pointer p) := (cell_at h.blk 3).trans (by show some (ptr (hd F.ws none)) = _; rw [hp])
  have HH := Lib.hid h
  have HV := Lib.hid hv
  have HP := Lib.hid hp
  have HOK := Lib.hid ok
  clear h hv hp ok
  go_enter Try.func39, Try.ntmps39
  go_wp2
  go_loopg [2] (F.ws.length) (fun g v wr => ∃ l r, F.ws = l ++ r ∧ r.length ≤ g ∧ v = ptr (hd r none) ∧ Hid (RowSt w F (overPos Sec.sync l F.secs) wr))
  case atStart => exact ⟨[], F.ws, rfl, Nat.le_refl _, HP.out.symm, HH.out.blk, HH.out.seg, HH.out.row, Fr.refl _ _⟩
  case round =>
    obtain ⟨l, r, hlr, hgr, rfl, hS⟩ := hrel
    have HLR := Lib.hid hlr
    clear hlr c3
    cases r with
    | nil =>
      have e0 : ptr (hd [] none) = .pointer none := rfl
      rw [e0]
      have c0 : wr.cell? ⟨F.b, 0, none⟩ = some (.slice a0 F.secs.length cap0) := (cell_at hS.out.blk 0).trans (by rw [← HV.out]; rfl)
      have c1 : wr.cell? ⟨F.b, 1, none⟩ = some (.int .i64 F.ns) := cell_at hS.out.blk 1
      have c2 : wr.cell? ⟨F.b, 2, none⟩ = some (.bool F.stays) := cell_at hS.out.blk 2
      have c3 : wr.cell? ⟨F.b, 3, none⟩ = some (ptr (hd F.ws none)) := cell_at hS.out.blk 3
      have c4 : wr.cell? ⟨F.b, 4, none⟩ = some (ptr (lst none F.ws)) := cell_at hS.out.blk 4
      have c5 : wr.cell? ⟨F.b, 5, none⟩ = some (.int .i64 F.ws.length) := cell_at hS.out.blk 5
      have f1 := free_at hS.out.blk 1
      have f2 := free_at hS.out.blk 2
      have f3 := free_at hS.out.blk 3
      have f4 := free_at hS.out.blk 4
      have f5 := free_at hS.out.blk 5
      clear e0
      go_wp2
      go_end0
      refine ⟨rfl, wr, ?_, rfl⟩
      have e := HLR.out
      rw [List.append_nil] at e
      rw [e]
      exact hS.out
    | cons x r =>
      have hx : x ∈ F.ws := by rw [HLR.out]; simp
      have hpos := HOK.out.pos x hx
      obtain ⟨g, cap, hv2, _, hgl⟩ := hS.out.row.form (by rw [over_length]; omega)
      rw [over_length] at hv2
      have hg : F.sl.ownBlock = some g := by rw [hv2]; rfl
      have hbg := HH.out.ne_row.1 g hg
      have hxg := HH.out.ne_row.2 g hg x hx
      have hgx : g ≠ x.b := fun e => hxg e.symm
      have hrow := hS.out.row
      rw [hv2] at hrow
      obtain ⟨s, hs⟩ : ∃ s, (overPos Sec.sync l F.secs)[x.pos]? = some s := ⟨_, List.getElem?_eq_getElem (by rw [over_length]; exact hpos)⟩
      obtain ⟨s0, s1, s2⟩ := secs_at _ _ _ hs
      have hol := over_length Sec.sync l F.secs
      rw [hol] at hrow
      have r0 := owns_cell hrow s0
      have r1 := owns_cell hrow s1
      have r2 := owns_cell hrow s2
      have f1 := owns_free hrow (x.pos * 3 + 1)
      have f2 := owns_free hrow (x.pos * 3 + 2)
      have hseg := hS.out.seg
      rw [HLR.out, seg_app] at hseg
      have hxa : WrAt wr x (lst none l) (hd r none) := hseg.2.1
      obtain ⟨p, hp⟩ := ptr_shape (hd r none)
      have x1 : wr.cell? ⟨x.b, 1, none⟩ = some (.int .i64 x.pos) := (cell_at hxa 1).trans rfl
      have x5 : wr.cell? ⟨x.b, 5, none⟩ = some (.pointer p) := (cell_at hxa 5).trans (by rw [← hp]; rfl)
      have c0 : wr.cell? ⟨F.b, 0, none⟩ = some (.slice (some ⟨g, 0, none⟩) F.secs.length cap) := (cell_at hS.out.blk 0).trans (by rw [← hv2]; rfl)
      have b1 : (x.pos : Int) < (F.secs.length : Int) := by omega
      have e0 : ptr (hd (x :: r) none) = .pointer (some ⟨x.b, 0, none⟩) := rfl
      rw [e0]
      have HP2 := Lib.hid hp
      have HRow := Lib.hid hrow
      have HS0 := Lib.hid hs
      have HG := Lib.hid hg
      have HV2 := Lib.hid hv2
      have HL := Lib.hid hol
      clear e0 hp hrow hs s0 s1 s2 hseg hxa hx hg hv2 hol
      go_wp2
      go_region
      go_wp2
      go_roundg (r.length)
      case measure => simp at hgr; omega
      case rel =>
        refine ⟨l ++ [x], r, by rw [HLR.out]; simp, Nat.le_refl _, HP2.out.symm, ?_⟩
        rw [over_snoc]
        refine RowSt.step HH.out hS.out HG.out (by rw [List.length_modify]) ((((Only.refl g _).drewN _).setCell _ _).setCell _ _) ?_
        rw [secs_sync _ _ _ HS0.out, HL.out, HV2.out]
        exact owns_set (owns_set (w := World.drewN _ _) HRow.out (x.pos * 3 + 1) (.string s.now)) (x.pos * 3 + 2) (.pointer none)

theorem RowSt.below {w wr w' : World} {F : Fl} {secs : List Sec} (h : RowSt w F secs wr) (hb : Below wr.heap.size wr w') : RowSt w F secs w' :=
  ⟨old_below h.blk hb, seg_keep h.seg (fun x hx => hb.block _ (seg_lt h.seg x hx)), owns_keep h.row (fun g hg => hb.block g (h.row.lt g hg).2), h.fr.trans (.of hb)⟩

theorem FileAt.sync {w : World} {F : Fl} (h : FileAt w F) (ok : FileOk F) :
    Calls Try.prog 39 #[.pointer (some ⟨F.b, 0, none⟩)] w fun e w' => e = .returned (.tuple #[]) ∧ FileAt w' F.sync ∧ Fr F.foot w w' := by
  refine (sync_walk h ok).mono ?_
  rintro e w' ⟨rfl, wr, hS, rfl⟩
  rw [sync_over ok] at hS
  have hne : ∀ g, F.sl.ownBlock = some g → g ≠ F.b := fun g hg e => h.ne_row.1 g hg e.symm
  refine ⟨rfl, ⟨?_, ?_, trivial, List.nodup_nil⟩, ?_⟩
  · exact set_at (set_at (set_at (set_at (set_at hS.blk _ _) _ _) _ _) _ _) _ _
  · have := hS.row
    refine owns_keep this (fun g hg => ?_)
    rw [Below.heap_setCell _ _ _ _ (hne g hg), Below.heap_setCell _ _ _ _ (hne g hg), Below.heap_setCell _ _ _ _ (hne g hg), Below.heap_setCell _ _ _ _ (hne g hg), Below.heap_setCell _ _ _ _ (hne g hg)]
  · have f1 : Fr F.foot w wr := hS.fr.mono (fun k _ hk => .inr (.inl hk))
    exact f1.trans (.only ((((((Only.refl F.b _).setCell _ _).setCell _ _).setCell _ _).setCell _ _).setCell _ _) (.inl rfl))

end Go.Proofs.Ytlgloikhdbmgdaa.P4
