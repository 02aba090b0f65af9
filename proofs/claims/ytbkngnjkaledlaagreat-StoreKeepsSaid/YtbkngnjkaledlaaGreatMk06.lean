/-
  Texts of the proof of SaidKeeps8, side by side: Dk5, Dk6.
-/
import Derived.Test.YtbkngnjkaledlaaGreatMk05
import Derived.Deep.LoopGhost
import Derived.Deep.RegionLaw
/-
  Package disk: Sync on a file. (Disk, part 5.)
-/
namespace Go.Proofs.YtbkngnjkaledlaaGreat.P4
open Go Go.RowKit Go.Lib Go.Proofs.YtbkngnjkaledlaaGreat.P3

/-- f at the sectors of the writes -/
def overPos (f : Sec → Sec) (l : List Wr) (secs : List Sec) : List Sec := l.foldl (fun S x => S.modify x.pos f) secs
theorem over_snoc (f : Sec → Sec) (l : List Wr) (x : Wr) (secs : List Sec) : overPos f (l ++ [x]) secs = (overPos f l secs).modify x.pos f := by simp [overPos]
theorem over_length (f : Sec → Sec) : ∀ (l : List Wr) (secs : List Sec), (overPos f l secs).length = secs.length
  | [], _ => rfl
  | x :: r, secs => by
    show (overPos f r (secs.modify x.pos f)).length = _
    rw [over_length f r, List.length_modify]
theorem over_at (f : Sec → Sec) (hf : ∀ s, f (f s) = f s) : ∀ (l : List Wr) (secs : List Sec) (i : Nat), (overPos f l secs)[i]? = if l.any (fun x => x.pos == i) then secs[i]?.map f else secs[i]?
  | [], secs, i => rfl
  | x :: r, secs, i => by
    show (overPos f r (secs.modify x.pos f))[i]? = _
    rw [over_at f hf r, List.getElem?_modify, List.any_cons]
    by_cases e : x.pos = i
    · subst e
      cases hs : secs[x.pos]? <;> simp [hf]
    · have e2 : (x.pos == i) = false := by simpa using e
      rw [e2, Bool.false_or]
      simp [e]

theorem sync_over {F : Fl} (ok : FileOk F) : overPos Sec.sync F.ws F.secs = F.secs.map Sec.sync := by
  apply List.ext_getElem?
  intro i
  rw [over_at Sec.sync (fun _ => rfl), List.getElem?_map]
  split
  · rfl
  · rename_i hno
    cases hs : F.secs[i]? with
    | none => rfl
    | some s =>
      have hne : ∀ x ∈ F.ws, x.pos ≠ i := fun x hx e => hno (List.any_eq_true.2 ⟨x, hx, by simpa using e⟩)
      obtain ⟨_, h2⟩ := ok.clean i s hs hne
      have h3 := ok.tops i s hs
      rw [lastAt_none hne] at h3
      show some s = some s.sync
      unfold Sec.sync
      congr
      cases s
      simp_all

/-- a file whose row holds other sectors; all else as it was -/
structure RowSt (w : World) (F : Fl) (secs : List Sec) (wr : World) : Prop where
  blk : wr.heap[F.b]? = some (.cells F.cells 148 (0, 0))
  seg : Seg wr none F.ws none
  row : wr.ownsRow 0 143 3 F.sl secs.length (secsCells secs)
  fr : Fr (fun k => F.sl.ownBlock = some k) w wr

theorem FileAt.ne_row {w : World} {F : Fl} (h : FileAt w F) : (∀ g, F.sl.ownBlock = some g → F.b ≠ g) ∧ ∀ g, F.sl.ownBlock = some g → ∀ x ∈ F.ws, x.b ≠ g := by
  refine ⟨fun g hg => ?_, fun g hg x hx => ?_⟩ <;>
  · rcases h.row.2 with ⟨h0, _⟩ | ⟨g', cap', cur, h0, h1, h2, _⟩
    · rw [h0] at hg; cases hg
    · rw [h0] at hg
      obtain rfl : g' = g := by simpa [Value.ownBlock] using hg
      first
        | exact block_ne h.blk h2 (by decide)
        | (obtain ⟨_, _, hx'⟩ := seg_mem h.seg x hx
           exact block_ne hx' h2 (by decide))

theorem RowSt.step {w wr : World} {F : Fl} {secs secs' : List Sec} (hw : FileAt w F) (h : RowSt w F secs wr) {g : Nat} (hg : F.sl.ownBlock = some g) {w' : World} (hlen : secs'.length = secs.length) (ho : Only g wr w') (hrow : w'.ownsRow 0 143 3 F.sl secs.length (secsCells secs')) : RowSt w F secs' w' :=
  ⟨ho.keep h.blk (hw.ne_row.1 g hg), seg_keep h.seg (fun x hx => ho.block _ (seg_lt h.seg x hx) (hw.ne_row.2 g hg x hx)), by rw [hlen]; exact hrow, h.fr.trans (.only ho hg)⟩

set_option maxRecDepth 100000 in
set_option maxHeartbeats 1000000 in
theorem sync_walk {w : World} {F : Fl} (h : FileAt w F) (ok : FileOk F) :
    Calls Tryz.prog 99 #[.pointer (some ⟨F.b, 0, none⟩)] w fun e w' => e = .returned (.tuple #[]) ∧ ∃ wr, RowSt w F (overPos Sec.sync F.ws F.secs) wr ∧
      w' = ((((wr.setCell ⟨F.b, 1, none⟩ (.int .i64 F.secs.length)).setCell ⟨F.b, 2, none⟩ (.bool true)).setCell ⟨F.b, 3, none⟩ (.pointer none)).setCell ⟨F.b, 4, none⟩ (.pointer none)).setCell ⟨F.b, 5, none⟩ (.int .i64 0) := by
  obtain ⟨a0, cap0, hv⟩ := owns_shape h.row
  obtain ⟨p, hp⟩ := ptr_shape (hd F.ws none)
  have c3 : w.cell? ⟨F.b, 3, none⟩ = some (.pointer p) := (cell_at h.blk 3).trans (by show some (ptr (hd F.ws none)) = _; rw [hp])
  have HH := Lib.hid h
  have HV := Lib.hid hv
  have HP := Lib.hid hp
  have HOK := Lib.hid ok
  clear h hv hp ok
  go_enter Tryz.func99, Tryz.ntmps99
  go_wp2
  go_loopg [2] (F.ws.length) (fun g v wr => ∃ l r, F.ws = l ++ r ∧ r.length ≤ g ∧ v = ptr (hd r none) ∧ Hid (RowSt w F (overPos Sec.sync l F.secs) wr))
  case atStart => exact ⟨[], F.ws, rfl, Nat.le_refl _, HP.out.symm, HH.out.blk, HH.out.seg, HH.out.row, Fr.refl _ _⟩
  case round =>
    obtain ⟨l, r, hlr, hgr, rfl, hS⟩ := hrel
    have HLR := Lib.hid hlr
    clear hlr c3
    cases r with
    | nil =>
      have e0 : ptr (hd [] none) = .pointer none := rfl
      rw [e0]
      have c0 : wr.cell? ⟨F.b, 0, none⟩ = some (.slice a0 F.secs.length cap0) := (cell_at hS.out.blk 0).trans (by rw [← HV.out]; rfl)
      have c1 : wr.cell? ⟨F.b, 1, none⟩ = some (.int .i64 F.ns) := cell_at hS.out.blk 1
      have c2 : wr.cell? ⟨F.b, 2, none⟩ = some (.bool F.stays) := cell_at hS.out.blk 2
      have c3 : wr.cell? ⟨F.b, 3, none⟩ = some (ptr (hd F.ws none)) := cell_at hS.out.blk 3
      have c4 : wr.cell? ⟨F.b, 4, none⟩ = some (ptr (lst none F.ws)) := cell_at hS.out.blk 4
      have c5 : wr.cell? ⟨F.b, 5, none⟩ = some (.int .i64 F.ws.length) := cell_at hS.out.blk 5
      have f1 := free_at hS.out.blk 1
      have f2 := free_at hS.out.blk 2
      have f3 := free_at hS.out.blk 3
      have f4 := free_at hS.out.blk 4
      have f5 := free_at hS.out.blk 5
      clear e0
      go_wp2
      go_end0
      refine ⟨rfl, wr, ?_, rfl⟩
      have e := HLR.out
      rw [List.append_nil] at e
      rw [e]
      exact hS.out
    | cons x r =>
      have hx : x ∈ F.ws := by rw [HLR.out]; simp
      have hpos := HOK.out.pos x hx
      obtain ⟨g, cap, hv2, _, hgl⟩ := hS.out.row.form (by rw [over_length]; omega)
      rw [over_length] at hv2
      have hg : F.sl.ownBlock = some g := by rw [hv2]; rfl
      have hbg := HH.out.ne_row.1 g hg
      have hxg := HH.out.ne_row.2 g hg x hx
      have hgx : g ≠ x.b := fun e => hxg e.symm
      have hrow := hS.out.row
      rw [hv2] at hrow
      obtain ⟨s, hs⟩ : ∃ s, (overPos Sec.sync l F.secs)[x.pos]? = some s := ⟨_, List.getElem?_eq_getElem (by rw [over_length]; exact hpos)⟩
      obtain ⟨s0, s1, s2⟩ := secs_at _ _ _ hs
      have hol := over_length Sec.sync l F.secs
      rw [hol] at hrow
      have r0 := owns_cell hrow s0
      have r1 := owns_cell hrow s1
      have r2 := owns_cell hrow s2
      have f1 := owns_free hrow (x.pos * 3 + 1)
      have f2 := owns_free hrow (x.pos * 3 + 2)
      have hseg := hS.out.seg
      rw [HLR.out, seg_app] at hseg
      have hxa : WrAt wr x (lst none l) (hd r none) := hseg.2.1
      obtain ⟨p, hp⟩ := ptr_shape (hd r none)
      have x1 : wr.cell? ⟨x.b, 1, none⟩ = some (.int .i64 x.pos) := (cell_at hxa 1).trans rfl
      have x5 : wr.cell? ⟨x.b, 5, none⟩ = some (.pointer p) := (cell_at hxa 5).trans (by rw [← hp]; rfl)
      have c0 : wr.cell? ⟨F.b, 0, none⟩ = some (.slice (some ⟨g, 0, none⟩) F.secs.length cap) := (cell_at hS.out.blk 0).trans (by rw [← hv2]; rfl)
      have b1 : (x.pos : Int) < (F.secs.length : Int) := by omega
      have e0 : ptr (hd (x :: r) none) = .pointer (some ⟨x.b, 0, none⟩) := rfl
      rw [e0]
      have HP2 := Lib.hid hp
      have HRow := Lib.hid hrow
      have HS0 := Lib.hid hs
      have HG := Lib.hid hg
      have HV2 := Lib.hid hv2
      have HL := Lib.hid hol
      clear e0 hp hrow hs s0 s1 s2 hseg hxa hx hg hv2 hol
      go_wp2
      go_region
      go_wp2
      go_roundg (r.length)
      case measure => simp at hgr; omega
      case rel =>
        refine ⟨l ++ [x], r, by rw [HLR.out]; simp, Nat.le_refl _, HP2.out.symm, ?_⟩
        rw [over_snoc]
        refine RowSt.step HH.out hS.out HG.out (by rw [List.length_modify]) ((((Only.refl g _).drewN _).setCell _ _).setCell _ _) ?_
        rw [secs_sync _ _ _ HS0.out, HL.out, HV2.out]
        exact owns_set (owns_set (w := World.drewN _ _) HRow.out (x.pos * 3 + 1) (.string s.now)) (x.pos * 3 + 2) (.pointer none)

theorem RowSt.below {w wr w' : World} {F : Fl} {secs : List Sec} (h : RowSt w F secs wr) (hb : Below wr.heap.size wr w') : RowSt w F secs w' :=
  ⟨old_below h.blk hb, seg_keep h.seg (fun x hx => hb.block _ (seg_lt h.seg x hx)), owns_keep h.row (fun g hg => hb.block g (h.row.lt g hg).2), h.fr.trans (.of hb)⟩

theorem FileAt.sync {w : World} {F : Fl} (h : FileAt w F) (ok : FileOk F) :
    Calls Tryz.prog 99 #[.pointer (some ⟨F.b, 0, none⟩)] w fun e w' => e = .returned (.tuple #[]) ∧ FileAt w' F.sync ∧ Fr F.foot w w' := by
  refine (sync_walk h ok).mono ?_
  rintro e w' ⟨rfl, wr, hS, rfl⟩
  rw [sync_over ok] at hS
  have hne : ∀ g, F.sl.ownBlock = some g → g ≠ F.b := fun g hg e => h.ne_row.1 g hg e.symm
  refine ⟨rfl, ⟨?_, ?_, trivial, List.nodup_nil⟩, ?_⟩
  · exact set_at (set_at (set_at (set_at (set_at hS.blk _ _) _ _) _ _) _ _) _ _
  · have := hS.row
    refine owns_keep this (fun g hg => ?_)
    rw [Below.heap_setCell _ _ _ _ (hne g hg), Below.heap_setCell _ _ _ _ (hne g hg), Below.heap_setCell _ _ _ _ (hne g hg), Below.heap_setCell _ _ _ _ (hne g hg), Below.heap_setCell _ _ _ _ (hne g hg)]
  · have f1 : Fr F.foot w wr := hS.fr.mono (fun k _ hk => .inr (.inl hk))
    exact f1.trans (.only ((((((Only.refl F.b _).setCell _ _).setCell _ _).setCell _ _).setCell _ _).setCell _ _) (.inl rfl))

end Go.Proofs.YtbkngnjkaledlaaGreat.P4

/-
  Package disk: slices.Delete at sectors: the end of a row is cut off. (Disk, part 6.)
-/
namespace Go.Proofs.YtbkngnjkaledlaaGreat.P4
open Go Go.RowKit Go.Lib Go.Proofs.YtbkngnjkaledlaaGreat.P3

/-- 'clear(s)' of structs -/
theorem run_clear_struct {P : Program} (w : World) (t e ty : TypeId) (z : Value) (zs : List Value) (ht : P.underlying t = some (.slice e)) (hv : ∀ w, (zeroValue e).run P w = .ok z w) (b o n c : Nat) (hn : 0 < n) (hz : (Builtin.zeroCells z.cells n).toList = zs) (h1 : ∀ v ∈ zs, v.oneCell' = true)
    (hc : ∀ j, j < zs.length → (w.cell? ⟨b, o + j, none⟩).isSome = true) (hf : ∀ j, j < zs.length → w.frozen? ⟨b, o + j, none⟩ = false) :
    (Builtin.clear_ #[t] ty #[.slice (some ⟨b, o, none⟩) n c]).run P w = .ok (.tuple #[]) (w.setCells b o zs) := by
  have hst := run_storeCells_cells (P := P) b o zs 0 w (by simpa using hc) (by simpa using hf) h1
  simp only [Nat.add_zero] at hst
  obtain ⟨m, rfl⟩ : ∃ m, n = m + 1 := ⟨n - 1, by omega⟩
  simp [Builtin.clear_, run_underlying ht, hv, hz, hst]

theorem delete_same (w : World) (a : Option Addr) (n cap : Nat) (hc : n ≤ cap) : Calls Tryz.prog 135 #[.slice a n cap, .int .i64 n, .int .i64 n] w fun e w' => e = .returned (.slice a n cap) ∧ w = w' := by
  go_enter Tryz.func135, Tryz.ntmps135
  go_wp2
  all_goals (go_ret; exact ⟨rfl, rfl⟩)

set_option maxRecDepth 100000 in
set_option maxHeartbeats 1000000 in
theorem delete_end (w : World) (g n N cap : Nat) (zs : List Value) (hn : n < N) (hN : N ≤ cap) (hcap : cap ≤ maxLen) (hz : (Builtin.zeroCells (Value.agg #[.string ⟨#[]⟩, .string ⟨#[]⟩, .pointer none]).cells (N - n)).toList = zs) (h1 : ∀ v ∈ zs, v.oneCell' = true)
    (hc : ∀ j, j < zs.length → (w.cell? ⟨g, n * 3 + j, none⟩).isSome = true) (hf : ∀ j, j < zs.length → w.frozen? ⟨g, n * 3 + j, none⟩ = false) :
    Calls Tryz.prog 135 #[.slice (some ⟨g, 0, none⟩) N cap, .int .i64 n, .int .i64 N] w fun e w' => e = .returned (.slice (some ⟨g, 0, none⟩) n cap) ∧ ∃ k, w' = (w.drewN k).setCells g (n * 3) zs := by
  obtain ⟨i0, hi, hz0, hz1, hz2⟩ := info_parts infoSec
  have hcl : ∀ k ty, (Builtin.clear_ #[144] ty #[.slice (some ⟨g, n * 3, none⟩) (N - n) (cap - n)]).run Tryz.prog (w.drewN k) = .ok (.tuple #[]) ((w.drewN k).setCells g (n * 3) zs) :=
    fun k ty => run_clear_struct (w.drewN k) 144 143 ty (.agg #[.string ⟨#[]⟩, .string ⟨#[]⟩, .pointer none]) zs Tryz.underlying144 (fun w => by kernel_rfl) g (n * 3) (N - n) (cap - n) (by omega) hz h1 hc hf
  have k1 : ((n : Int) == (N : Int)) = false := by simp; omega
  have k2 : ¬ N = n := by omega
  have k3 : ¬ cap = n := by omega
  have b1 : (n : Int) ≤ (N : Int) := by omega
  have k4 : n ≤ cap := by omega
  have b2 : (N : Int) ≤ (cap : Int) := by omega
  have hcl1 : ∀ ty, (Builtin.clear_ #[144] ty #[.slice (some ⟨g, n * 3, none⟩) (N - n) (cap - n)]).run Tryz.prog w.drew = .ok (.tuple #[]) (w.drew.setCells g (n * 3) zs) := hcl 1
  unfold maxLen at hcap
  by_cases he : cap = N
  · subst he
    clear hc hf h1 hz hcl
    go_enter Tryz.func135, Tryz.ntmps135
    go_wp2_with fail
    go_region_law (refine step_append_room rfl (.tmp 22) (.tmp 25) 144 rfl 143 i0 3 Tryz.underlying144 hi hz1 g 0 n cap (by simp [Act.eval, Act.put]) ⟨g, 0, none⟩ 0 0 [] (by simp [Act.eval, Act.put]) rfl (by intro j u hu; simp at hu) (by intro u hu; simp at hu) (by omega) (by intro j hj; simp at hj) ?_; simp only [World.setCells, Nat.add_zero])
    go_wp2
    go_ret
    exact ⟨rfl, 1, rfl⟩
  · clear hc hf h1 hz hcl
    go_enter Tryz.func135, Tryz.ntmps135
    go_wp2_with fail
    go_region_law (refine step_append_room rfl (.tmp 22) (.tmp 25) 144 rfl 143 i0 3 Tryz.underlying144 hi hz1 g 0 n cap (by simp [Act.eval, Act.put]) ⟨g, N * 3, none⟩ 0 (cap - N) [] (by simp [Act.eval, Act.put]) rfl (by intro j u hu; simp at hu) (by intro u hu; simp at hu) (by omega) (by intro j hj; simp at hj) ?_; simp only [World.setCells, Nat.add_zero])
    go_wp2
    go_ret
    exact ⟨rfl, 1, rfl⟩

theorem only_setCells (g : Nat) : ∀ (vs : List Value) (o : Nat) (w : World), Only g w (w.setCells g o vs)
  | [], _, w => Only.refl g w
  | v :: r, o, w => ((Only.refl g w).setCell o v).trans (only_setCells g r (o + 1) _)
theorem at_setCells (g : Nat) (t : TypeId) : ∀ (vs : List Value) (o : Nat) (w : World) (cur : Array Value), w.heap[g]? = some (.cells cur t (0, 0)) →
    ∃ cur', (w.setCells g o vs).heap[g]? = some (.cells cur' t (0, 0)) ∧ cur'.size = cur.size ∧ ∀ i, i < o → cur'[i]? = cur[i]?
  | [], _, w, cur, h => ⟨cur, h, rfl, fun _ _ => rfl⟩
  | v :: r, o, w, cur, h => by
    obtain ⟨cur', h1, h2, h3⟩ := at_setCells g t r (o + 1) _ _ (set_at h o v)
    refine ⟨cur', h1, by rw [h2, Array.size_setIfInBounds], fun i hi => ?_⟩
    rw [h3 i (by omega), Array.getElem?_setIfInBounds, if_neg (by omega)]

theorem zeros_one (n : Nat) : ∀ v ∈ (Builtin.zeroCells (Value.agg #[.string ⟨#[]⟩, .string ⟨#[]⟩, .pointer none]).cells n).toList, v.oneCell' = true := by
  intro v hv
  have hv2 : v ∈ Builtin.zeroCells (Value.agg #[.string ⟨#[]⟩, .string ⟨#[]⟩, .pointer none]).cells n := by simpa using hv
  obtain ⟨i, hi, rfl⟩ := Array.mem_iff_getElem.1 hv2
  have hz : (Value.agg #[.string ⟨#[]⟩, .string ⟨#[]⟩, .pointer none]).cells = #[.string ⟨#[]⟩, .string ⟨#[]⟩, .pointer none] := rfl
  simp only [Builtin.zeroCells, hz] at hi ⊢
  have h3 : i % 3 = 0 ∨ i % 3 = 1 ∨ i % 3 = 2 := by omega
  rcases h3 with h | h | h <;> simp [h, Value.oneCell']

/-- the end of a row is cut off -/
theorem owns_cut {w : World} {g n N cap : Nat} {secs : List Sec} (h : w.ownsRow 0 143 3 (.slice (some ⟨g, 0, none⟩) N cap) N (secsCells secs)) (hn : n < N) :
    Calls Tryz.prog 135 #[.slice (some ⟨g, 0, none⟩) N cap, .int .i64 n, .int .i64 N] w fun e w' => e = .returned (.slice (some ⟨g, 0, none⟩) n cap) ∧ w'.ownsRow 0 143 3 (.slice (some ⟨g, 0, none⟩) n cap) n (secsCells (secs.take n)) ∧ Only g w w' := by
  obtain ⟨hc1, hc2⟩ := owns_cap h
  have hl : secs.length = N := by have := h.1; rw [secs_length] at this; omega
  rcases h.2 with ⟨h0, _⟩ | ⟨g', cap', cur, h0, h1, h2, h3, h4, h5, h6⟩
  · simp at h0
  simp only [Value.slice.injEq, Option.some.injEq, Addr.mk.injEq] at h0
  obtain ⟨⟨rfl, _⟩, _, rfl⟩ := h0
  have hzl : (Builtin.zeroCells (Value.agg #[.string ⟨#[]⟩, .string ⟨#[]⟩, .pointer none]).cells (N - n)).toList.length = (N - n) * 3 := by
    rw [Array.length_toList, size_zeroCells]; rfl
  refine (delete_end w g n N cap _ hn hc1 hc2 rfl (zeros_one _) (fun j hj => ?_) (fun j _ => free_at h2 _)).mono ?_
  · rw [hzl] at hj
    rw [cell_at h2, Array.getElem?_eq_getElem (by omega)]
    rfl
  · rintro e w' ⟨rfl, k, rfl⟩
    obtain ⟨cur', q1, q2, q3⟩ := at_setCells g 143 (Builtin.zeroCells (Value.agg #[.string ⟨#[]⟩, .string ⟨#[]⟩, .pointer none]).cells (N - n)).toList (n * 3) (w.drewN k) cur h2
    refine ⟨rfl, ⟨by rw [secs_length, List.length_take]; omega, .inr ⟨g, cap, cur', rfl, Nat.zero_le _, q1, by omega, hc2, by rw [q2]; exact h5, ?_⟩⟩, ((Only.refl g w).drewN k).trans (only_setCells g _ _ _)⟩
    have e1 : secsCells (secs.take n) = (secsCells secs).take (n * 3) := by
      have e2 : secsCells secs = secsCells (secs.take n) ++ secsCells (secs.drop n) := by rw [← secs_app, List.take_append_drop]
      conv => rhs; rw [e2]
      rw [List.take_append_of_le_length (by rw [secs_length, List.length_take]; omega)]
      exact (List.take_of_length_le (by rw [secs_length, List.length_take]; omega)).symm
    rw [e1, ← h6, List.take_take, show min (n * 3) (N * 3) = n * 3 by omega]
    apply List.ext_getElem?
    intro i
    rw [List.getElem?_take, List.getElem?_take]
    split
    · rw [Array.getElem?_toList, Array.getElem?_toList, q3 i (by assumption)]
    · rfl

end Go.Proofs.YtbkngnjkaledlaaGreat.P4
