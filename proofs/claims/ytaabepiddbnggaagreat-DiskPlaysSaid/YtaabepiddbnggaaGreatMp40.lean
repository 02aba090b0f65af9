/-
  Texts of the proof of SaidPlays, side by side: BbR, BbS, BbP.
-/
import Derived.Test.YtaabepiddbnggaaGreatMp39
/-
  Rows of one's own, side by side: each another block; what happens to one leaves the others as they are. (For any seat.)
-/
namespace Go.Proofs.YtaabepiddbnggaaGreat.PB
open Go Go.RowKit Go.Lib

/-- a row: its slice, what its elements are, how many, their cells -/
structure Row where
  v : Value
  e : TypeId
  size : Nat
  n : Nat
  xs : List Value
def Row.blk (r : Row) : Option Nat := r.v.ownBlock
def Row.At (w : World) (lo : Nat) (r : Row) : Prop := w.ownsRow lo r.e r.size r.v r.n r.xs
/-- rows of one's own -/
structure Rws (w0 : World) (l : List Row) (w : World) : Prop where
  own : ∀ x ∈ l, x.At w w0.heap.size
  nd : (l.filterMap Row.blk).Nodup
  below : Below w0.heap.size w0 w

theorem owns_lo {w : World} {b b' e size : Nat} {v : Value} {n : Nat} {xs : List Value} (h : w.ownsRow b e size v n xs) (hb : b' ≤ b) : w.ownsRow b' e size v n xs :=
  ⟨h.1, h.2.imp id fun ⟨g, cap, cur, h1, h2, h3⟩ => ⟨g, cap, cur, h1, Nat.le_trans hb h2, h3⟩⟩
theorem Rws.nil (w : World) : Rws w [] w := ⟨fun _ h => (List.not_mem_nil h).elim, List.nodup_nil, Below.refl _ _⟩
theorem Rws.over {w0 w w' : World} {l : List Row} (h : Rws w0 l w) (k : Below w.heap.size w w') : Rws w0 l w' :=
  ⟨fun x hx => owns_below (h.own x hx) k, h.nd, thenBelow h.below k⟩
theorem Rws.lt {w0 w : World} {l : List Row} (h : Rws w0 l w) {x : Row} (hx : x ∈ l) {g : Nat} (hg : x.blk = some g) : w0.heap.size ≤ g ∧ g < w.heap.size := (h.own x hx).lt g hg
theorem Rws.perm {w0 w : World} {l k : List Row} (h : Rws w0 l w) (p : l.Perm k) : Rws w0 k w :=
  ⟨fun x hx => h.own x (p.mem_iff.2 hx), (p.filterMap _).nodup_iff.1 h.nd, h.below⟩
theorem Rws.sub {w0 w : World} {l k : List Row} (h : Rws w0 l w) (p : k.Sublist l) : Rws w0 k w :=
  ⟨fun x hx => h.own x (p.subset hx), h.nd.sublist (p.filterMap _), h.below⟩
/-- one that was made behind all of them -/
theorem Rws.add {w0 w w' : World} {l : List Row} (h : Rws w0 l w) (k : Below w.heap.size w w') {x : Row} (hx : x.At w' w.heap.size) : Rws w0 (x :: l) w' := by
  have h' := h.over k
  refine ⟨fun y hy => ?_, ?_, h'.below⟩
  · rcases List.mem_cons.1 hy with rfl | hy
    · exact owns_lo hx h.below.size
    · exact h'.own y hy
  · cases hb : x.blk with
    | none => rw [List.filterMap_cons_none hb]; exact h'.nd
    | some g =>
      rw [List.filterMap_cons_some hb, List.nodup_cons]
      refine ⟨fun hm => ?_, h'.nd⟩
      obtain ⟨y, hy, e⟩ := List.mem_filterMap.1 hm
      have h1 := (h.lt hy e).2
      have h2 := (hx.lt g hb).1
      omega
theorem Row.ofBlock (w : World) (cs : List Value) (t : TypeId) (hm : cs.length ≤ maxLen) : Row.At (w.alloc (.cells cs.toArray t)) w.heap.size ⟨.slice (some ⟨w.heap.size, 0, none⟩) cs.length cs.length, t, 1, cs.length, cs⟩ :=
  ⟨by simp, .inr ⟨w.heap.size, cs.length, cs.toArray, rfl, Nat.le_refl _, new_at w _ _, Nat.le_refl _, hm, by simp, by simp⟩⟩
/-- a block that is a row of just these cells -/
def bl (b : Nat) (cs : List Value) (t : TypeId) : Row := ⟨.slice (some ⟨b, 0, none⟩) cs.length cs.length, t, 1, cs.length, cs⟩
theorem bl_heap {w : World} {lo b : Nat} {cs : List Value} {t : TypeId} (h : (bl b cs t).At w lo) : w.heap[b]? = some (.cells cs.toArray t (0, 0)) := by
  obtain ⟨_, h⟩ := h
  rcases h with ⟨h, _⟩ | ⟨g, cap, cur, h1, _, h3, _, _, h6, h7⟩
  · cases h
  · simp only [bl, Value.slice.injEq, Option.some.injEq, Addr.mk.injEq] at h1
    obtain ⟨⟨rfl, _⟩, _, rfl⟩ := h1
    rw [h3]
    simp only [bl, Nat.mul_one] at h6 h7
    rw [List.take_of_length_le (by simpa using Nat.le_of_eq h6)] at h7
    have : cur = cs.toArray := by rw [← h7]
    rw [this]; rfl
theorem Rws.block {w0 w : World} {l : List Row} (h : Rws w0 l w) {b : Nat} {cs : List Value} {t : TypeId} (hx : bl b cs t ∈ l) : w.heap[b]? = some (.cells cs.toArray t (0, 0)) := bl_heap (h.own _ hx)
theorem Rws.new {w0 w : World} {l : List Row} (h : Rws w0 l w) (cs : List Value) (t : TypeId) (hm : cs.length ≤ maxLen) : Rws w0 (bl w.heap.size cs t :: l) (w.alloc (.cells cs.toArray t)) :=
  h.add (below_new w _) (Row.ofBlock w cs t hm)

theorem nd_swap {l1 l2 : List Row} {x y : Row} {n : Nat} (h : ((l1 ++ x :: l2).filterMap Row.blk).Nodup) (hl : ∀ z ∈ l1 ++ l2, ∀ g, z.blk = some g → g < n) (hy : y.blk = x.blk ∨ ∀ g, y.blk = some g → n ≤ g) : ((l1 ++ y :: l2).filterMap Row.blk).Nodup := by
  have hp : ∀ z : Row, (l1 ++ z :: l2).Perm (z :: (l1 ++ l2)) := fun z => List.perm_middle
  have hx := ((hp x).filterMap Row.blk).nodup_iff.1 h
  refine ((hp y).filterMap Row.blk).nodup_iff.2 ?_
  have hr : ((l1 ++ l2).filterMap Row.blk).Nodup := by
    cases hb : x.blk with
    | none => rwa [List.filterMap_cons_none hb] at hx
    | some g => rw [List.filterMap_cons_some hb, List.nodup_cons] at hx; exact hx.2
  rcases hy with hy | hy
  · cases hb : x.blk with
    | none => rw [List.filterMap_cons_none (hy.trans hb)]; exact hr
    | some g =>
      rw [List.filterMap_cons_some hb] at hx
      rw [List.filterMap_cons_some (hy.trans hb)]
      exact hx
  · cases hb : y.blk with
    | none => rw [List.filterMap_cons_none hb]; exact hr
    | some g =>
      rw [List.filterMap_cons_some hb, List.nodup_cons]
      refine ⟨fun hm => ?_, hr⟩
      obtain ⟨z, hz, e⟩ := List.mem_filterMap.1 hm
      have h1 := hl z hz g e
      have h2 := hy g hb
      omega
/-- each other one's block is another one -/
theorem Rws.other {w0 w : World} {l1 l2 : List Row} {x y : Row} (h : Rws w0 (l1 ++ x :: l2) w) (hy : y ∈ l1 ++ l2) : y.blk = none ∨ y.blk ≠ x.blk := by
  have hp : (l1 ++ x :: l2).Perm (x :: (l1 ++ l2)) := List.perm_middle
  have hx := (hp.filterMap Row.blk).nodup_iff.1 h.nd
  cases hb : y.blk with
  | none => exact .inl rfl
  | some g =>
    right
    intro e
    rw [List.filterMap_cons_some e.symm, List.nodup_cons] at hx
    exact hx.1 (List.mem_filterMap.2 ⟨y, hy, hb⟩)
/-- a row has grown (append's law): the others stay -/
theorem Rws.grown {w0 w w' : World} {l1 l2 : List Row} {x : Row} (h : Rws w0 (l1 ++ x :: l2) w) {v' : Value} {n' : Nat} {xs' : List Value} (hg : w.grownBy w' x.blk) (hv : w'.ownsRow w0.heap.size x.e x.size v' n' xs') (hf : v'.ownBlock = x.blk ∨ ∀ g, v'.ownBlock = some g → w.heap.size ≤ g) : Rws w0 (l1 ++ ⟨v', x.e, x.size, n', xs'⟩ :: l2) w' := by
  refine ⟨fun y hy => ?_, nd_swap (y := ⟨v', x.e, x.size, n', xs'⟩) (n := w.heap.size) h.nd (fun z hz g e => (h.lt (by
    rcases List.mem_append.1 hz with q | q
    · exact List.mem_append_left _ q
    · exact List.mem_append_right _ (List.mem_cons_of_mem _ q)) e).2) hf, h.below.grown hg h.below.size (fun g e => (h.lt (by simp) e).1)⟩
  rcases List.mem_append.1 hy with q | q
  · exact (h.own y (List.mem_append_left _ q)).kept hg (h.other (List.mem_append_left _ q))
  · rcases List.mem_cons.1 q with rfl | q
    · exact hv
    · exact (h.own y (List.mem_append_right _ (List.mem_cons_of_mem _ q))).kept hg (h.other (List.mem_append_right _ q))
/-- a cell of a row is set -/
theorem Row.At.set {w : World} {lo : Nat} {x : Row} (h : x.At w lo) {g : Nat} (hb : x.blk = some g) (j : Nat) (u : Value) (hj : j < x.n * x.size) : Row.At (w.setCell ⟨g, j, none⟩ u) lo ⟨x.v, x.e, x.size, x.n, x.xs.set j u⟩ := by
  obtain ⟨h0, h⟩ := h
  refine ⟨by simpa using h0, ?_⟩
  rcases h with ⟨e, h⟩ | ⟨g', cap, cur, h1, h2, h3, h4, h5, h6, h7⟩
  · unfold Row.blk at hb; rw [e] at hb; simp [Value.ownBlock] at hb
  · have e : g' = g := by unfold Row.blk at hb; rw [h1] at hb; simpa [Value.ownBlock] using hb
    subst e
    refine .inr ⟨g', cap, cur.setIfInBounds j u, h1, h2, set_at h3 j u, h4, h5, by simpa using h6, ?_⟩
    show (cur.setIfInBounds j u).toList.take (x.n * x.size) = x.xs.set j u
    rw [Array.toList_setIfInBounds, List.take_set, h7]
theorem setCell_grownBy (w : World) (g j : Nat) (u : Value) : w.grownBy (w.setCell ⟨g, j, none⟩ u) (some g) :=
  ⟨rfl, rfl, rfl, by simp, fun k _ hne => Below.heap_setCell _ _ _ _ (fun e => hne (congrArg some e))⟩
theorem Rws.set {w0 w : World} {l1 l2 : List Row} {x : Row} (h : Rws w0 (l1 ++ x :: l2) w) {g : Nat} (hb : x.blk = some g) (j : Nat) (u : Value) (hj : j < x.n * x.size) : Rws w0 (l1 ++ ⟨x.v, x.e, x.size, x.n, x.xs.set j u⟩ :: l2) (w.setCell ⟨g, j, none⟩ u) := by
  have hx := h.own x (by simp)
  have hg := setCell_grownBy w g j u
  rw [← hb] at hg
  exact h.grown hg (hx.set hb j u hj) (.inl rfl)
/-- what a row's cells hold -/
theorem Row.At.cell {w : World} {lo : Nat} {x : Row} (h : x.At w lo) {g : Nat} (hb : x.blk = some g) {j : Nat} {u : Value} (hu : x.xs[j]? = some u) : w.cell? ⟨g, j, none⟩ = some u := by
  have := h.cells hb j u hu
  rwa [Go.WideShapes.add_plain, Nat.zero_add] at this
theorem Row.At.free {w : World} {lo : Nat} {x : Row} (h : x.At w lo) {g : Nat} (hb : x.blk = some g) (j : Nat) : w.frozen? ⟨g, j, none⟩ = false := by
  obtain ⟨_, h⟩ := h
  rcases h with ⟨e, _⟩ | ⟨g', cap, cur, h1, _, h3, _⟩
  · unfold Row.blk at hb; rw [e] at hb; simp [Value.ownBlock] at hb
  · have e : g' = g := by unfold Row.blk at hb; rw [h1] at hb; simpa [Value.ownBlock] using hb
    subst e
    exact free_at h3 j
/-- its slice -/
theorem Row.At.slice {w : World} {lo : Nat} {x : Row} (h : x.At w lo) : (x.v = .slice none 0 0 ∧ x.n = 0 ∧ x.xs = []) ∨ ∃ g cap, x.v = .slice (some ⟨g, 0, none⟩) x.n cap ∧ x.blk = some g ∧ x.n ≤ cap ∧ cap ≤ maxLen := by
  obtain ⟨h0, h⟩ := h
  rcases h with ⟨e, h⟩ | ⟨g', cap, cur, h1, _, _, h4, h5, _⟩
  · refine .inl ⟨e, h, ?_⟩
    rw [h, Nat.zero_mul] at h0
    exact List.eq_nil_of_length_eq_zero h0
  · exact .inr ⟨g', cap, h1, by unfold Row.blk; rw [h1]; rfl, h4, h5⟩
/-- a list of texts that is a row -/
def tRow (v : Value) (l : List ByteArray) : Row := ⟨v, 9, 1, l.length, l.map Value.string⟩
theorem tRow_texts {w : World} {lo : Nat} {v : Value} {l : List ByteArray} (h : (tRow v l).At w lo) (hl : l.length ≤ 9223372036854775807) (hz : ∀ i (h : i < l.length), l[i].size ≤ 9223372036854775807) : TextsIn w v l := by
  rcases h.slice with ⟨e, h1, _⟩ | ⟨g, cap, e, hb, _⟩
  · have e1 : v = .slice none 0 0 := e
    have h2 : l.length = 0 := h1
    obtain rfl := List.eq_nil_of_length_eq_zero h2
    rw [e1]
    exact TextsIn.nil w
  · have e1 : v = .slice (some ⟨g, 0, none⟩) l.length cap := e
    refine ⟨_, cap, e1, (fun q => by cases q), hl, hz, fun _ => ⟨g, 0, rfl, (h.lt g hb).2, fun i hi => ?_⟩⟩
    rw [Nat.zero_add]
    exact h.cell hb (by simp [tRow, hi])

end Go.Proofs.YtaabepiddbnggaaGreat.PB

/-
  The book, part 5: lists of texts that it keeps: one more; are they as they were?
-/
namespace Go.Proofs.YtaabepiddbnggaaGreat.PB
open Go Go.RowKit Go.Lib

/-- the book's own cells: two rows, nothing of other kinds -/
def bookCells (tv cv : Value) : List Value := [tv, cv, .slice none 0 0, .slice none 0 0, .slice none 0 0, .slice none 0 0, .slice none 0 0, .slice none 0 0, .slice none 0 0, .slice none 0 0, .slice none 0 0, .slice none 0 0, .slice none 0 0, .slice none 0 0, .slice none 0 0, .slice none 0 0, .slice none 0 0, .slice none 0 0]
def rowsOf (us : List Value) (ls : List (List ByteArray)) : List Row := List.zipWith tRow us ls
/-- a row of slices -/
def vRow (v : Value) (us : List Value) : Row := ⟨v, 51, 1, us.length, us⟩
/-- the book at block b keeps the lists ls, and copies ms; other rows R stand beside it -/
structure Bk (w0 : World) (R : List Row) (b : Nat) (tv cv : Value) (us cs : List Value) (ls ms : List (List ByteArray)) (w : World) : Prop where
  rows : Rws w0 (R ++ (bl b (bookCells tv cv) 44 :: vRow tv us :: vRow cv cs :: (rowsOf us ls ++ rowsOf cs ms))) w
  ul : us.length = ls.length
  cl : cs.length = ms.length
  lm : ls.length = ms.length
  few : ls.length ≤ 100
  short : ∀ l ∈ ls, l.length ≤ 1000 ∧ ∀ s ∈ l, s.size ≤ 100000
  shortm : ∀ l ∈ ms, l.length ≤ 1000 ∧ ∀ s ∈ l, s.size ≤ 100000
theorem rowsOf_mem {us : List Value} {ls : List (List ByteArray)} {i : Nat} {u : Value} {l : List ByteArray} (hu : us[i]? = some u) (hl : ls[i]? = some l) : tRow u l ∈ rowsOf us ls := by
  refine List.mem_of_getElem? (i := i) ?_
  unfold rowsOf
  rw [List.getElem?_zipWith, hu, hl]
theorem rowsOf_split {us : List Value} {ls : List (List ByteArray)} {i : Nat} {u : Value} {l : List ByteArray} (hu : us[i]? = some u) (hl : ls[i]? = some l) : ∃ A B, rowsOf us ls = A ++ tRow u l :: B ∧ ∀ l', rowsOf us (ls.set i l') = A ++ tRow u l' :: B := by
  induction us generalizing ls i with
  | nil => simp at hu
  | cons v us ih =>
    cases ls with
    | nil => simp at hl
    | cons m ls =>
      cases i with
      | zero =>
        simp at hu hl
        subst hu hl
        exact ⟨[], rowsOf us ls, rfl, fun l' => rfl⟩
      | succ i =>
        simp only [List.getElem?_cons_succ] at hu hl
        obtain ⟨A, B, h1, h2⟩ := ih hu hl
        refine ⟨tRow v m :: A, B, ?_, fun l' => ?_⟩
        · show tRow v m :: rowsOf us ls = _
          rw [h1]; rfl
        · show tRow v m :: rowsOf us (ls.set i l') = _
          rw [h2]; rfl
theorem short_texts {l : List ByteArray} (h : l.length ≤ 1000 ∧ ∀ s ∈ l, s.size ≤ 100000) : l.length ≤ 9223372036854775807 ∧ ∀ i (h : i < l.length), l[i].size ≤ 9223372036854775807 :=
  ⟨by omega, fun i hi => by have := h.2 _ (List.getElem_mem hi); omega⟩
section
variable {w0 w w' : World} {R : List Row} {b : Nat} {tv cv : Value} {us cs : List Value} {ls ms : List (List ByteArray)}
theorem Bk.cells (h : Bk w0 R b tv cv us cs ls ms w) : w.heap[b]? = some (.cells (bookCells tv cv).toArray 44 (0, 0)) := h.rows.block (by simp)
theorem Bk.tv_ (h : Bk w0 R b tv cv us cs ls ms w) : (vRow tv us).At w w0.heap.size := h.rows.own _ (by simp)
theorem Bk.cv_ (h : Bk w0 R b tv cv us cs ls ms w) : (vRow cv cs).At w w0.heap.size := h.rows.own _ (by simp)
theorem Bk.ur_ (h : Bk w0 R b tv cv us cs ls ms w) {i : Nat} {u : Value} {l : List ByteArray} (hu : us[i]? = some u) (hl : ls[i]? = some l) : (tRow u l).At w w0.heap.size := h.rows.own _ (by have := rowsOf_mem hu hl; simp [this])
theorem Bk.u_ (h : Bk w0 R b tv cv us cs ls ms w) {i : Nat} {u : Value} {l : List ByteArray} (hu : us[i]? = some u) (hl : ls[i]? = some l) : TextsIn w u l := by
  have hs := short_texts (h.short l (List.mem_of_getElem? hl))
  exact tRow_texts (h.ur_ hu hl) hs.1 hs.2
theorem Bk.c_ (h : Bk w0 R b tv cv us cs ls ms w) {i : Nat} {u : Value} {l : List ByteArray} (hu : cs[i]? = some u) (hl : ms[i]? = some l) : TextsIn w u l := by
  have hs := short_texts (h.shortm l (List.mem_of_getElem? hl))
  exact tRow_texts (h.rows.own _ (by have := rowsOf_mem hu hl; simp [this])) hs.1 hs.2
theorem Bk.over (h : Bk w0 R b tv cv us cs ls ms w) (k : Below w.heap.size w w') : Bk w0 R b tv cv us cs ls ms w' := ⟨h.rows.over k, h.ul, h.cl, h.lm, h.few, h.short, h.shortm⟩
theorem Bk.below (h : Bk w0 R b tv cv us cs ls ms w) : Below w0.heap.size w0 w := h.rows.below
/-- where it keeps some lists: its two rows -/
theorem Bk.shape (h : Bk w0 R b tv cv us cs ls ms w) (hne : 0 < ls.length) :
    ∃ g cap g2 cap2, tv = .slice (some ⟨g, 0, none⟩) ls.length cap ∧ cv = .slice (some ⟨g2, 0, none⟩) ls.length cap2 ∧
      ∀ R' ls' ms' W, Bk w0 R' b tv cv us cs ls' ms' W → (W.cell? ⟨b, 0, none⟩ = some tv ∧ W.cell? ⟨b, 1, none⟩ = some cv) ∧ (∀ i u, us[i]? = some u → W.cell? ⟨g, i, none⟩ = some u) ∧ ∀ i c, cs[i]? = some c → W.cell? ⟨g2, i, none⟩ = some c := by
  have hu := h.ul
  have hc := h.cl
  have hm := h.lm
  rcases h.tv_.slice with ⟨_, h1, _⟩ | ⟨g, cap, e1, hb1, _⟩
  · exact absurd (show us.length = 0 from h1) (by omega)
  · rcases h.cv_.slice with ⟨_, h1, _⟩ | ⟨g2, cap2, e2, hb2, _⟩
    · exact absurd (show cs.length = 0 from h1) (by omega)
    · refine ⟨g, cap, g2, cap2, by rw [← hu]; exact e1, by rw [hm, ← hc]; exact e2, fun R' ls' ms' W hW => ⟨⟨?_, ?_⟩, fun i u h1 => hW.tv_.cell hb1 h1, fun i c h2 => hW.cv_.cell hb2 h2⟩⟩
      · rw [cell_at hW.cells]; rfl
      · rw [cell_at hW.cells]; rfl
/-- an element of a list is set -/
theorem Bk.put (h : Bk w0 R b tv cv us cs ls ms w) {i : Nat} {u : Value} {l : List ByteArray} (hu : us[i]? = some u) (hl : ls[i]? = some l) {g : Nat} (hg : u.ownBlock = some g) (k : Nat) (s : ByteArray) (hk : k < l.length) (hs : s.size ≤ 100000) :
    Bk w0 R b tv cv us cs (ls.set i (l.set k s)) ms (w.setCell ⟨g, k, none⟩ (.string s)) := by
  obtain ⟨A, B, h1, h2⟩ := rowsOf_split hu hl
  have hr := h.rows
  rw [h1] at hr
  have e1 : R ++ (bl b (bookCells tv cv) 44 :: vRow tv us :: vRow cv cs :: (A ++ tRow u l :: B ++ rowsOf cs ms)) = (R ++ (bl b (bookCells tv cv) 44 :: vRow tv us :: vRow cv cs :: A)) ++ tRow u l :: (B ++ rowsOf cs ms) := by simp
  rw [e1] at hr
  have hq := hr.set (show (tRow u l).blk = some g from hg) k (.string s) (by show k < l.length * 1; omega)
  have e2 : (⟨(tRow u l).v, (tRow u l).e, (tRow u l).size, (tRow u l).n, (tRow u l).xs.set k (.string s)⟩ : Row) = tRow u (l.set k s) := by
    unfold tRow
    simp only [List.length_set, List.map_set]
  rw [e2] at hq
  refine ⟨?_, ?_, h.cl, ?_, ?_, ?_, h.shortm⟩
  · rw [h2]
    have e3 : R ++ (bl b (bookCells tv cv) 44 :: vRow tv us :: vRow cv cs :: (A ++ tRow u (l.set k s) :: B ++ rowsOf cs ms)) = (R ++ (bl b (bookCells tv cv) 44 :: vRow tv us :: vRow cv cs :: A)) ++ tRow u (l.set k s) :: (B ++ rowsOf cs ms) := by simp
    rw [e3]
    exact hq
  · rw [List.length_set]; exact h.ul
  · rw [List.length_set]; exact h.lm
  · rw [List.length_set]; exact h.few
  · intro m hm
    rcases List.mem_or_eq_of_mem_set hm with hm | rfl
    · exact h.short m hm
    · have q := h.short l (List.mem_of_getElem? hl)
      refine ⟨by rw [List.length_set]; exact q.1, fun x hx => ?_⟩
      rcases List.mem_or_eq_of_mem_set hx with hx | rfl
      · exact q.2 x hx
      · exact hs
/-- a row that was made behind -/
theorem Bk.with_ (h : Bk w0 R b tv cv us cs ls ms w) (k : Below w.heap.size w w') {x : Row} (hx : x.At w' w.heap.size) : Bk w0 (x :: R) b tv cv us cs ls ms w' := ⟨h.rows.add k hx, h.ul, h.cl, h.lm, h.few, h.short, h.shortm⟩
theorem Bk.less {x : Row} (h : Bk w0 (x :: R) b tv cv us cs ls ms w) : Bk w0 R b tv cv us cs ls ms w := ⟨h.rows.sub (List.sublist_cons_self ..), h.ul, h.cl, h.lm, h.few, h.short, h.shortm⟩
end

set_option maxRecDepth 100000 in
set_option maxHeartbeats 2000000 in
theorem stillTexts_some (w0 w : World) (b : Nat) (tv cv : Value) (us cs : List Value) (R : List Row) (ls : List (List ByteArray)) (h : Bk w0 R b tv cv us cs ls ls w) (hne : 0 < ls.length) :
    Calls Tryz.prog 50 #[.pointer (some ⟨b, 0, none⟩)] w fun r w' => r = .returned (.bool true) ∧ Below w.heap.size w w' := by
  obtain ⟨g, cap, g2, cap2, rfl, rfl, hcell⟩ := h.shape hne
  have HC := Lib.hid hcell
  have hul := h.ul
  have hcl := h.cl
  have HB := Lib.hid h
  have HE := Lib.hid (HC.out _ _ _ w h).1
  have few := h.few
  clear h hcell
  obtain ⟨n, hn⟩ : ∃ n, n = ls.length := ⟨_, rfl⟩
  go_enter Tryz.func50, Tryz.ntmps50
  go_wp2
  go_loopw [3] (fun vi wr => ∃ i : Nat, i ≤ ls.length ∧ vi = .int .i64 i ∧ Hid (Bk w0 R b (.slice (some ⟨g, 0, none⟩) ls.length cap) (.slice (some ⟨g2, 0, none⟩) ls.length cap2) us cs ls ls wr) ∧ Hid (Below w.heap.size w wr)) (fun vi _ => ls.length - (RowKit.intOf vi).toNat)
  case atStart => exact ⟨0, Nat.zero_le _, rfl, HB, Below.refl _ _⟩
  case round =>
    obtain ⟨i, hi, rfl, HW, HL⟩ := hrel
    obtain ⟨⟨c0, c1⟩, hel, hel2⟩ := HC.out _ _ _ wr HW.out
    by_cases hil : i < ls.length
    · have b1 : decide ((i : Int) < (ls.length : Int)) = true := decide_eq_true (by omega)
      have b1' : decide (i < ls.length) = true := decide_eq_true hil
      have j0 : (0 : Int) ≤ (i : Int) := by omega
      have j1 : (i : Int) < (ls.length : Int) := by omega
      obtain ⟨u, hu⟩ : ∃ u, us[i]? = some u := ⟨_, List.getElem?_eq_getElem (by omega)⟩
      obtain ⟨c, hc⟩ : ∃ c, cs[i]? = some c := ⟨_, List.getElem?_eq_getElem (by omega)⟩
      obtain ⟨l, hl⟩ : ∃ l, ls[i]? = some l := ⟨_, List.getElem?_eq_getElem hil⟩
      have HXY := Lib.hid (show ∀ W, Bk w0 R b (.slice (some ⟨g, 0, none⟩) ls.length cap) (.slice (some ⟨g2, 0, none⟩) ls.length cap2) us cs ls ls W → (W.cell? ⟨b, 0, none⟩ = some (.slice (some ⟨g, 0, none⟩) ls.length cap) ∧ W.cell? ⟨b, 1, none⟩ = some (.slice (some ⟨g2, 0, none⟩) ls.length cap2)) ∧ W.cell? ⟨g, i, none⟩ = some u ∧ W.cell? ⟨g2, i, none⟩ = some c from fun W hW => ⟨(HC.out _ _ _ W hW).1, (HC.out _ _ _ W hW).2.1 i u hu, (HC.out _ _ _ W hW).2.2 i c hc⟩)
      have HS := Lib.hid (show ∀ W, Bk w0 R b (.slice (some ⟨g, 0, none⟩) ls.length cap) (.slice (some ⟨g2, 0, none⟩) ls.length cap2) us cs ls ls W → Calls Tryz.prog 13 #[u, c] W fun e w' => e = .returned (.bool true) ∧ Below W.heap.size W w' from fun W hW => by
        have q := sameTexts_any W u c l l (hW.u_ hu hl) (hW.c_ hc hl)
        rwa [decide_eq_true rfl] at q)
      have HWd := Lib.hid (HW.out.over ((Below.refl _ _).drew))
      have HLd := Lib.hid (thenBelow HL.out ((Below.refl _ _).drew))
      clear hel hel2 hu hc hl HC HB HE
      go_wp2
      go_region_held3 (fun W => (W.cell? ⟨b, 0, none⟩ = some (.slice (some ⟨g, 0, none⟩) ls.length cap) ∧ W.cell? ⟨b, 1, none⟩ = some (.slice (some ⟨g2, 0, none⟩) ls.length cap2)) ∧ W.cell? ⟨g, i, none⟩ = some u ∧ W.cell? ⟨g2, i, none⟩ = some c) (first | exact HXY.out _ HWd.out | exact HXY.out _ HW.out | exact HXY.out _ (by assumption))
        ((first | (go_at_call 13; (with_reducible refine (HS.out _ HWd.out).mono ?_); rintro e w2 ⟨rfl, hb⟩; have hW2 := HWd.out.over hb; have HL2 := Lib.hid (thenBelow HLd.out hb))))
      all_goals
        have HW2 := Lib.hid hW2
        clear hW2
        go_wp2
        go_roundw
        case rel => exact ⟨i + 1, by omega, by go_num, HW2, HL2⟩
        case measure => simp [RowKit.intOf]; omega
    · have b1 : decide ((i : Int) < (ls.length : Int)) = false := decide_eq_false (by omega)
      have b1' : decide (i < ls.length) = false := decide_eq_false hil
      clear hel hel2 HC HB HE
      go_wp2
      go_ret
      exact ⟨rfl, HL.out⟩

end Go.Proofs.YtaabepiddbnggaaGreat.PB

/-
  The book, part 6: marks are put into the lists of texts that it keeps.
-/
namespace Go.Proofs.YtaabepiddbnggaaGreat.PB
open Go Go.RowKit Go.Lib

/-- the first i lists are marked -/
def putL (ls : List (List ByteArray)) (i : Nat) : List (List ByteArray) := ls.mapIdx fun j l => if j < i then marksL j 0 l.length else l
theorem putL_length (ls : List (List ByteArray)) (i : Nat) : (putL ls i).length = ls.length := by simp [putL]
theorem putL_zero (ls : List (List ByteArray)) : putL ls 0 = ls := by
  apply List.ext_getElem?
  intro j
  simp [putL]
theorem putL_at {ls : List (List ByteArray)} {i : Nat} {l : List ByteArray} (h : ls[i]? = some l) : (putL ls i)[i]? = some l := by simp [putL, h]
theorem putL_next {ls : List (List ByteArray)} {i : Nat} {l : List ByteArray} (h : ls[i]? = some l) : (putL ls i).set i (marksL i 0 l.length) = putL ls (i + 1) := by
  apply List.ext_getElem?
  intro j
  by_cases hj : j = i
  · subst hj
    have hl : j < (putL ls j).length := by rw [putL_length]; exact (List.getElem?_eq_some_iff.1 h).1
    rw [List.getElem?_set_self hl]
    simp [putL, h]
  · rw [List.getElem?_set_ne (Ne.symm hj)]
    unfold putL
    rw [List.getElem?_mapIdx, List.getElem?_mapIdx]
    congr 1
    funext l'
    by_cases h1 : j < i
    · rw [if_pos h1, if_pos (by omega)]
    · rw [if_neg h1, if_neg (by omega)]
/-- of one list the first k texts are marked -/
def mixL (i : Nat) (l : List ByteArray) (k : Nat) : List ByteArray := (marksL i 0 l.length).take k ++ l.drop k
theorem mixL_length (i : Nat) (l : List ByteArray) (k : Nat) (hk : k ≤ l.length) : (mixL i l k).length = l.length := by
  unfold mixL
  rw [List.length_append, List.length_take, marksL_length, List.length_drop]
  omega
theorem mixL_zero (i : Nat) (l : List ByteArray) : mixL i l 0 = l := rfl
theorem mixL_all (i : Nat) (l : List ByteArray) : mixL i l l.length = marksL i 0 l.length := by
  unfold mixL
  rw [List.take_of_length_le (by rw [marksL_length]; exact Nat.le_refl _), List.drop_length, List.append_nil]
theorem marksL_at (i n k : Nat) (hk : k < n) : (marksL i 0 n)[k]? = some (nameB i k) := by simp [marksL, hk]
theorem mixL_next (i : Nat) (l : List ByteArray) (k : Nat) (hk : k < l.length) : (mixL i l k).set k (nameB i k) = mixL i l (k + 1) := by
  have hl : (mixL i l k).length = l.length := mixL_length i l k (by omega)
  apply List.ext_getElem?
  intro j
  have ht : ((marksL i 0 l.length).take k).length = k := by rw [List.length_take, marksL_length]; omega
  have ht' : ((marksL i 0 l.length).take (k + 1)).length = k + 1 := by rw [List.length_take, marksL_length]; omega
  by_cases hj : j = k
  · subst hj
    rw [List.getElem?_set_self (by omega)]
    unfold mixL
    rw [List.getElem?_append_left (by omega), List.getElem?_take_of_lt (by omega), marksL_at i _ _ hk]
  · rw [List.getElem?_set_ne (Ne.symm hj)]
    unfold mixL
    rcases Nat.lt_or_gt_of_ne hj with h1 | h1
    · rw [List.getElem?_append_left (by omega), List.getElem?_append_left (by omega), List.getElem?_take_of_lt (by omega), List.getElem?_take_of_lt (by omega)]
    · rw [List.getElem?_append_right (by omega), List.getElem?_append_right (by omega), List.getElem?_drop, List.getElem?_drop, ht, ht']
      congr 1
      omega

/-- marks from the first on, their slice laid open -/
theorem marks0 (w : World) (i n : Nat) (hi : i ≤ 500000) (hn : n ≤ 400000) :
    Calls Tryz.prog 121 #[.int .i64 i, .int .i64 0, .int .i64 n] w fun e w' => ∃ (a : Option Addr) (c : Nat), e = .returned (.slice a n c) ∧ (0 < n → ∃ g, a = some ⟨g, 0, none⟩) ∧ (tRow (.slice a n c) (marksL i 0 n)).At w' w.heap.size ∧ Below w.heap.size w w' := by
  refine (markTexts_any w i 0 n hi (by omega) hn).mono fun e w' ⟨u, h1, h2, h3⟩ => ?_
  have h4 : (tRow u (marksL i 0 n)).At w' w.heap.size := by unfold Row.At tRow; rw [marksL_length]; exact h2
  rcases h4.slice with ⟨e1, e2, _⟩ | ⟨g, cp, e1, _⟩
  · have e3 : u = .slice none 0 0 := e1
    have e4 : n = 0 := by have := e2; unfold tRow at this; rw [marksL_length] at this; exact this
    subst e3 e4
    exact ⟨none, 0, h1, fun q => absurd q (Nat.lt_irrefl _), h4, h3⟩
  · have e3 : u = .slice (some ⟨g, 0, none⟩) n cp := by have := e1; unfold tRow at this; rw [marksL_length] at this; exact this
    subst e3
    exact ⟨_, cp, h1, fun _ => ⟨g, rfl⟩, h4, h3⟩

set_option maxRecDepth 100000 in
set_option maxHeartbeats 4000000 in
theorem putTexts_some (w0 w : World) (b : Nat) (tv cv : Value) (us cs : List Value) (ls ms : List (List ByteArray)) (h : Bk w0 [] b tv cv us cs ls ms w) (hne : 0 < ls.length) :
    Calls Tryz.prog 61 #[.pointer (some ⟨b, 0, none⟩)] w fun r w' => r = .returned (.tuple #[]) ∧ Bk w0 [] b tv cv us cs (putL ls ls.length) ms w' := by
  obtain ⟨g, cap, g2, cap2, rfl, rfl, hcell⟩ := h.shape hne
  have HC := Lib.hid hcell
  have hul := h.ul
  have few := h.few
  have HB := Lib.hid h
  have HSh := Lib.hid h.short
  clear h hcell
  generalize hT : Value.slice (some ⟨g2, 0, none⟩) ls.length cap2 = cv at *
  go_enter Tryz.func61, Tryz.ntmps61
  go_wp2
  go_loopw [2] (fun vi wr => ∃ i : Nat, i ≤ ls.length ∧ vi = .int .i64 i ∧ Hid (Bk w0 [] b (.slice (some ⟨g, 0, none⟩) ls.length cap) cv us cs (putL ls i) ms wr)) (fun vi _ => ls.length - (RowKit.intOf vi).toNat)
  case atStart => exact ⟨0, Nat.zero_le _, rfl, by rw [putL_zero]; exact HB⟩
  case round =>
    obtain ⟨i, hi, rfl, HW⟩ := hrel
    obtain ⟨⟨c0, -⟩, hel, -⟩ := HC.out _ _ _ wr HW.out
    by_cases hil : i < ls.length
    · have b1 : decide ((i : Int) < (ls.length : Int)) = true := decide_eq_true (by omega)
      have b1' : decide (i < ls.length) = true := decide_eq_true hil
      have j0 : (0 : Int) ≤ (i : Int) := by omega
      have j1 : (i : Int) < (ls.length : Int) := by omega
      obtain ⟨u, hu⟩ : ∃ u, us[i]? = some u := ⟨_, List.getElem?_eq_getElem (by omega)⟩
      obtain ⟨l, hl⟩ : ∃ l, ls[i]? = some l := ⟨_, List.getElem?_eq_getElem hil⟩
      have hu1 := hel i u hu
      have hsh := HSh.out l (List.mem_of_getElem? hl)
      have hrow := HW.out.ur_ hu (putL_at hl)
      have hsl := hrow.slice
      obtain ⟨ao, n, cp, rfl, hn, hao⟩ : ∃ (ao : Option Addr) (n cp : Nat), u = .slice ao n cp ∧ n = l.length ∧ (0 < n → ∃ gu, ao = some ⟨gu, 0, none⟩) := by
        rcases hsl with ⟨e, h1, _⟩ | ⟨gu, cp, e, _⟩
        · exact ⟨none, 0, 0, e, h1.symm, fun q => absurd q (Nat.lt_irrefl _)⟩
        · exact ⟨_, l.length, cp, e, rfl, fun _ => ⟨gu, rfl⟩⟩
      have MK := Lib.hid (marks0 wr i n (by omega) (by omega))
      have hnl : n ≤ 1000 := by omega
      have HU := Lib.hid hu
      have HL := Lib.hid hl
      have HN := Lib.hid hn
      have HAO := Lib.hid hao
      clear hu hl hsl hrow hel hn hao HB
      go_wp2_with (go_at_call 121; (with_reducible refine MK.out.mono ?_); rintro e w2 ⟨am, cm, rfl, ham, hrm, hb⟩; have HB2 := Lib.hid (HW.out.with_ hb hrm); have HAM := Lib.hid ham; clear hrm hb ham)
      go_loopw [4] (fun vk wx => ∃ k : Nat, k ≤ n ∧ vk = .int .i64 k ∧ Hid (Bk w0 [tRow (.slice am n cm) (marksL i 0 n)] b (.slice (some ⟨g, 0, none⟩) ls.length cap) cv us cs ((putL ls i).set i (mixL i l k)) ms wx)) (fun vk _ => n - (RowKit.intOf vk).toNat)
      case atStart =>
        refine ⟨0, Nat.zero_le _, rfl, ?_⟩
        have e : (putL ls i).set i (mixL i l 0) = putL ls i := by
          rw [mixL_zero]
          apply List.ext_getElem?
          intro j
          by_cases hj : j = i
          · subst hj
            rw [List.getElem?_set_self (by rw [putL_length]; exact hil), putL_at HL.out]
          · rw [List.getElem?_set_ne (Ne.symm hj)]
        rw [e]
        exact HB2
      case round =>
        obtain ⟨k, hk, rfl, HX⟩ := hrel
        by_cases hkn : k < n
        · have b2 : decide ((k : Int) < (n : Int)) = true := decide_eq_true (by omega)
          have b2' : decide (k < n) = true := decide_eq_true hkn
          have q0 : (0 : Int) ≤ (k : Int) := by omega
          have q1 : (k : Int) < (n : Int) := by omega
          obtain ⟨gu, rfl⟩ := HAO.out (by omega)
          obtain ⟨gm, rfl⟩ := HAM.out (by omega)
          have hlset : ((putL ls i).set i (mixL i l k))[i]? = some (mixL i l k) := List.getElem?_set_self (by rw [putL_length]; exact hil)
          have hmk : (mixL i l k).length = l.length := mixL_length i l k (by have := HN.out; omega)
          have HY := Lib.hid (show ∀ ls' W, Bk w0 [tRow (.slice (some ⟨gm, 0, none⟩) n cm) (marksL i 0 n)] b (.slice (some ⟨g, 0, none⟩) ls.length cap) cv us cs ls' ms W → W.cell? ⟨b, 0, none⟩ = some (.slice (some ⟨g, 0, none⟩) ls.length cap) ∧ W.cell? ⟨g, i, none⟩ = some (.slice (some ⟨gu, 0, none⟩) n cp) ∧ W.cell? ⟨gm, k, none⟩ = some (.string (nameB i k)) from fun ls' W hW => by
            obtain ⟨⟨y1, -⟩, y2, -⟩ := HC.out _ _ _ W hW
            exact ⟨y1, y2 i _ HU.out, (hW.rows.own _ (by simp)).cell (show (tRow (.slice (some ⟨gm, 0, none⟩) n cm) (marksL i 0 n)).blk = some gm from rfl) (by simp [tRow, marksL_at i n k hkn])⟩)
          have HXd := Lib.hid (HX.out.over ((Below.refl _ _).drew))
          have HP := Lib.hid (HXd.out.put HU.out hlset (show Value.ownBlock (.slice (some ⟨gu, 0, none⟩) n cp) = some gu from rfl) k (nameB i k) (by have := HN.out; omega) (by rw [nameB_size]; omega))
          have hrow2 := HXd.out.ur_ HU.out hlset
          obtain ⟨old, hold⟩ : ∃ s, (mixL i l k)[k]? = some s := ⟨_, List.getElem?_eq_getElem (by have := HN.out; omega)⟩
          have t0 := hrow2.cell (show (tRow (.slice (some ⟨gu, 0, none⟩) n cp) (mixL i l k)).blk = some gu from rfl) (j := k) (u := .string old) (by simp [tRow, hold])
          have t1 := hrow2.free (show (tRow (.slice (some ⟨gu, 0, none⟩) n cp) (mixL i l k)).blk = some gu from rfl) k
          have e1 : ((putL ls i).set i (mixL i l k)).set i ((mixL i l k).set k (nameB i k)) = (putL ls i).set i (mixL i l (k + 1)) := by rw [List.set_set, mixL_next i l k (by have := HN.out; omega)]
          have HP2 := HP.out
          rw [e1] at HP2
          have HP := Lib.hid HP2
          clear HP2 hrow2 hold hlset hmk e1 HB2 MK HW
          go_wp2_with fail
          go_region_held3 (fun W => W.cell? ⟨b, 0, none⟩ = some (.slice (some ⟨g, 0, none⟩) ls.length cap) ∧ W.cell? ⟨g, i, none⟩ = some (.slice (some ⟨gu, 0, none⟩) n cp) ∧ W.cell? ⟨gm, k, none⟩ = some (.string (nameB i k))) (first | exact HY.out _ _ HXd.out | exact HY.out _ _ HP.out) (fail)
          all_goals
            go_wp2
            go_roundw
            case rel => exact ⟨k + 1, by omega, by go_num, HP⟩
            case measure => simp [RowKit.intOf]; omega
        · have b2 : decide ((k : Int) < (n : Int)) = false := decide_eq_false (by omega)
          have b2' : decide (k < n) = false := decide_eq_false hkn
          obtain rfl : k = n := by omega
          have HXL := HX.out.less
          rw [HN.out, mixL_all, putL_next HL.out] at HXL
          have HXN := Lib.hid HXL
          clear HXL HX HW HB2 MK
          go_wp2
          go_roundw
          case rel => exact ⟨i + 1, by omega, by go_num, HXN⟩
          case measure => simp [RowKit.intOf]; omega
    · have b1 : decide ((i : Int) < (ls.length : Int)) = false := decide_eq_false (by omega)
      have b1' : decide (i < ls.length) = false := decide_eq_false hil
      obtain rfl : i = ls.length := by omega
      clear hel HB
      go_wp2
      go_end0
      exact ⟨rfl, HW.out⟩

end Go.Proofs.YtaabepiddbnggaaGreat.PB
