/-
  Rows of one's own, side by side: each another block; what happens to one leaves the others as they are. Frames; regions taken by hand. (For any seat.)
-/
import Derived.Test.YtpbaodjmkdcihaaRows
import Derived.WalkKit
import Derived.BigQuiet
import Derived.Deep.QuietTactic
import Derived.Deep.OwnRows
import Derived.Outline
import Derived.WalkSpells
import Derived.Lib.Builder
import Derived.Lib.SliceRun
import Derived.Lib.AppendStr
import Derived.Lib.BufSteps
import Derived.Lib.Hide
import Derived.Lib.BufferRead
import Derived.Deep.RegionHeld3
import Derived.Deep.AppendLies
namespace Go.Proofs.Ytpbaodjmkdcihaa.PK
open Go Go.RowKit Go.Lib

theorem lt_of_block {w : World} {b : Nat} {o : Obj} (h : w.heap[b]? = some o) : b < w.heap.size := (Array.getElem?_eq_some_iff.1 h).1
/-- what is owned stays, where nothing that was there has changed -/
theorem owns_below {w w' : World} {base e size : Nat} {v : Value} {n : Nat} {xs : List Value} (h : w.ownsRow base e size v n xs) (hb : Below w.heap.size w w') : w'.ownsRow base e size v n xs :=
  h.kept (row := none) ⟨hb.os, hb.tape, hb.output, hb.size, fun k hk _ => hb.block k hk⟩ (by cases hv : v.ownBlock <;> simp)
theorem owns_shape {w : World} {base e size n : Nat} {v : Value} {xs : List Value} (h : w.ownsRow base e size v n xs) : ∃ a k c, v = .slice a k c := by
  rcases h.2 with ⟨rfl, _⟩ | ⟨g, cap, cur, rfl, _⟩
  · exact ⟨_, _, _, rfl⟩
  · exact ⟨_, _, _, rfl⟩
theorem len_owned {w : World} {base e : Nat} {v : Value} {n : Nat} {xs : List Value} (h : w.ownsRow base e 1 v n xs) : ∃ a c, v = .slice a n c := by
  rcases h.2 with ⟨rfl, rfl⟩ | ⟨g, cap, cur, rfl, _⟩
  · exact ⟨_, _, rfl⟩
  · exact ⟨_, _, rfl⟩
theorem cell_at {w : World} {b : Nat} {c : Array Value} {t : TypeId} (h : w.heap[b]? = some (.cells c t (0, 0))) (j : Nat) : w.cell? ⟨b, j, none⟩ = c[j]? := by
  simp [World.cell?, h]
theorem free_at {w : World} {b : Nat} {c : Array Value} {t : TypeId} (h : w.heap[b]? = some (.cells c t (0, 0))) (j : Nat) : w.frozen? ⟨b, j, none⟩ = false := by
  simp [World.frozen?, h]
theorem set_at {w : World} {b : Nat} {c : Array Value} {t : TypeId} (h : w.heap[b]? = some (.cells c t (0, 0))) (j : Nat) (u : Value) : (w.setCell ⟨b, j, none⟩ u).heap[b]? = some (.cells (c.setIfInBounds j u) t (0, 0)) := by
  simp only [World.setCell, Array.getElem?_modify]; rw [h]; rfl
theorem new_at (w : World) (c : Array Value) (t : TypeId) : (w.alloc (.cells c t)).heap[w.heap.size]? = some (.cells c t (0, 0)) := heap_alloc_new w _
theorem below_new (w : World) (o : Obj) : Below w.heap.size w (w.alloc o) := (Below.refl _ w).alloc (Nat.le_refl _) o

theorem grow {a w : World} (h : Below a.heap.size a w) (o : Obj) : Below a.heap.size a (w.alloc o) := h.alloc h.size o
theorem thenBelow {a w w' : World} (h : Below a.heap.size a w) (k : Below w.heap.size w w') : Below a.heap.size a w' := h.trans (k.mono h.size)

/-- a row: its slice, what its elements are, how many, their cells -/
structure Row where
  v : Value
  e : TypeId
  size : Nat
  n : Nat
  xs : List Value
def Row.blk (r : Row) : Option Nat := r.v.ownBlock
def Row.At (w : World) (lo : Nat) (r : Row) : Prop := w.ownsRow lo r.e r.size r.v r.n r.xs
/-- rows of one's own -/
structure Rws (w0 : World) (l : List Row) (w : World) : Prop where
  own : ∀ x ∈ l, x.At w w0.heap.size
  nd : (l.filterMap Row.blk).Nodup
  below : Below w0.heap.size w0 w

theorem owns_lo {w : World} {b b' e size : Nat} {v : Value} {n : Nat} {xs : List Value} (h : w.ownsRow b e size v n xs) (hb : b' ≤ b) : w.ownsRow b' e size v n xs :=
  ⟨h.1, h.2.imp id fun ⟨g, cap, cur, h1, h2, h3⟩ => ⟨g, cap, cur, h1, Nat.le_trans hb h2, h3⟩⟩
theorem Rws.nil (w : World) : Rws w [] w := ⟨fun _ h => (List.not_mem_nil h).elim, List.nodup_nil, Below.refl _ _⟩
theorem Rws.over {w0 w w' : World} {l : List Row} (h : Rws w0 l w) (k : Below w.heap.size w w') : Rws w0 l w' :=
  ⟨fun x hx => owns_below (h.own x hx) k, h.nd, thenBelow h.below k⟩
theorem Rws.lt {w0 w : World} {l : List Row} (h : Rws w0 l w) {x : Row} (hx : x ∈ l) {g : Nat} (hg : x.blk = some g) : w0.heap.size ≤ g ∧ g < w.heap.size := (h.own x hx).lt g hg
theorem Rws.perm {w0 w : World} {l k : List Row} (h : Rws w0 l w) (p : l.Perm k) : Rws w0 k w :=
  ⟨fun x hx => h.own x (p.mem_iff.2 hx), (p.filterMap _).nodup_iff.1 h.nd, h.below⟩
theorem Rws.sub {w0 w : World} {l k : List Row} (h : Rws w0 l w) (p : k.Sublist l) : Rws w0 k w :=
  ⟨fun x hx => h.own x (p.subset hx), h.nd.sublist (p.filterMap _), h.below⟩
/-- one that was made behind all of them -/
theorem Rws.add {w0 w w' : World} {l : List Row} (h : Rws w0 l w) (k : Below w.heap.size w w') {x : Row} (hx : x.At w' w.heap.size) : Rws w0 (x :: l) w' := by
  have h' := h.over k
  refine ⟨fun y hy => ?_, ?_, h'.below⟩
  · rcases List.mem_cons.1 hy with rfl | hy
    · exact owns_lo hx h.below.size
    · exact h'.own y hy
  · cases hb : x.blk with
    | none => rw [List.filterMap_cons_none hb]; exact h'.nd
    | some g =>
      rw [List.filterMap_cons_some hb, List.nodup_cons]
      refine ⟨fun hm => ?_, h'.nd⟩
      obtain ⟨y, hy, e⟩ := List.mem_filterMap.1 hm
      have h1 := (h.lt hy e).2
      have h2 := (hx.lt g hb).1
      omega
theorem Row.ofBlock (w : World) (cs : List Value) (t : TypeId) (hm : cs.length ≤ maxLen) : Row.At (w.alloc (.cells cs.toArray t)) w.heap.size ⟨.slice (some ⟨w.heap.size, 0, none⟩) cs.length cs.length, t, 1, cs.length, cs⟩ :=
  ⟨by simp, .inr ⟨w.heap.size, cs.length, cs.toArray, rfl, Nat.le_refl _, new_at w _ _, Nat.le_refl _, hm, by simp, by simp⟩⟩
/-- a block that is a row of just these cells -/
def bl (b : Nat) (cs : List Value) (t : TypeId) : Row := ⟨.slice (some ⟨b, 0, none⟩) cs.length cs.length, t, 1, cs.length, cs⟩
theorem bl_heap {w : World} {lo b : Nat} {cs : List Value} {t : TypeId} (h : (bl b cs t).At w lo) : w.heap[b]? = some (.cells cs.toArray t (0, 0)) := by
  obtain ⟨_, h⟩ := h
  rcases h with ⟨h, _⟩ | ⟨g, cap, cur, h1, _, h3, _, _, h6, h7⟩
  · cases h
  · simp only [bl, Value.slice.injEq, Option.some.injEq, Addr.mk.injEq] at h1
    obtain ⟨⟨rfl, _⟩, _, rfl⟩ := h1
    rw [h3]
    simp only [bl, Nat.mul_one] at h6 h7
    rw [List.take_of_length_le (by simpa using Nat.le_of_eq h6)] at h7
    have : cur = cs.toArray := by rw [← h7]
    rw [this]; rfl
theorem Rws.block {w0 w : World} {l : List Row} (h : Rws w0 l w) {b : Nat} {cs : List Value} {t : TypeId} (hx : bl b cs t ∈ l) : w.heap[b]? = some (.cells cs.toArray t (0, 0)) := bl_heap (h.own _ hx)
theorem Rws.new {w0 w : World} {l : List Row} (h : Rws w0 l w) (cs : List Value) (t : TypeId) (hm : cs.length ≤ maxLen) : Rws w0 (bl w.heap.size cs t :: l) (w.alloc (.cells cs.toArray t)) :=
  h.add (below_new w _) (Row.ofBlock w cs t hm)

theorem nd_swap {l1 l2 : List Row} {x y : Row} {n : Nat} (h : ((l1 ++ x :: l2).filterMap Row.blk).Nodup) (hl : ∀ z ∈ l1 ++ l2, ∀ g, z.blk = some g → g < n) (hy : y.blk = x.blk ∨ ∀ g, y.blk = some g → n ≤ g) : ((l1 ++ y :: l2).filterMap Row.blk).Nodup := by
  have hp : ∀ z : Row, (l1 ++ z :: l2).Perm (z :: (l1 ++ l2)) := fun z => List.perm_middle
  have hx := ((hp x).filterMap Row.blk).nodup_iff.1 h
  refine ((hp y).filterMap Row.blk).nodup_iff.2 ?_
  have hr : ((l1 ++ l2).filterMap Row.blk).Nodup := by
    cases hb : x.blk with
    | none => rwa [List.filterMap_cons_none hb] at hx
    | some g => rw [List.filterMap_cons_some hb, List.nodup_cons] at hx; exact hx.2
  rcases hy with hy | hy
  · cases hb : x.blk with
    | none => rw [List.filterMap_cons_none (hy.trans hb)]; exact hr
    | some g =>
      rw [List.filterMap_cons_some hb] at hx
      rw [List.filterMap_cons_some (hy.trans hb)]
      exact hx
  · cases hb : y.blk with
    | none => rw [List.filterMap_cons_none hb]; exact hr
    | some g =>
      rw [List.filterMap_cons_some hb, List.nodup_cons]
      refine ⟨fun hm => ?_, hr⟩
      obtain ⟨z, hz, e⟩ := List.mem_filterMap.1 hm
      have h1 := hl z hz g e
      have h2 := hy g hb
      omega
/-- each other one's block is another one -/
theorem Rws.other {w0 w : World} {l1 l2 : List Row} {x y : Row} (h : Rws w0 (l1 ++ x :: l2) w) (hy : y ∈ l1 ++ l2) : y.blk = none ∨ y.blk ≠ x.blk := by
  have hp : (l1 ++ x :: l2).Perm (x :: (l1 ++ l2)) := List.perm_middle
  have hx := (hp.filterMap Row.blk).nodup_iff.1 h.nd
  cases hb : y.blk with
  | none => exact .inl rfl
  | some g =>
    right
    intro e
    rw [List.filterMap_cons_some e.symm, List.nodup_cons] at hx
    exact hx.1 (List.mem_filterMap.2 ⟨y, hy, hb⟩)
/-- a row has grown (append's law): the others stay -/
theorem Rws.grown {w0 w w' : World} {l1 l2 : List Row} {x : Row} (h : Rws w0 (l1 ++ x :: l2) w) {v' : Value} {n' : Nat} {xs' : List Value} (hg : w.grownBy w' x.blk) (hv : w'.ownsRow w0.heap.size x.e x.size v' n' xs') (hf : v'.ownBlock = x.blk ∨ ∀ g, v'.ownBlock = some g → w.heap.size ≤ g) : Rws w0 (l1 ++ ⟨v', x.e, x.size, n', xs'⟩ :: l2) w' := by
  refine ⟨fun y hy => ?_, nd_swap (y := ⟨v', x.e, x.size, n', xs'⟩) (n := w.heap.size) h.nd (fun z hz g e => (h.lt (by
    rcases List.mem_append.1 hz with q | q
    · exact List.mem_append_left _ q
    · exact List.mem_append_right _ (List.mem_cons_of_mem _ q)) e).2) hf, h.below.grown hg h.below.size (fun g e => (h.lt (by simp) e).1)⟩
  rcases List.mem_append.1 hy with q | q
  · exact (h.own y (List.mem_append_left _ q)).kept hg (h.other (List.mem_append_left _ q))
  · rcases List.mem_cons.1 q with rfl | q
    · exact hv
    · exact (h.own y (List.mem_append_right _ (List.mem_cons_of_mem _ q))).kept hg (h.other (List.mem_append_right _ q))
/-- a cell of a row is set -/
theorem Row.At.set {w : World} {lo : Nat} {x : Row} (h : x.At w lo) {g : Nat} (hb : x.blk = some g) (j : Nat) (u : Value) (hj : j < x.n * x.size) : Row.At (w.setCell ⟨g, j, none⟩ u) lo ⟨x.v, x.e, x.size, x.n, x.xs.set j u⟩ := by
  obtain ⟨h0, h⟩ := h
  refine ⟨by simpa using h0, ?_⟩
  rcases h with ⟨e, h⟩ | ⟨g', cap, cur, h1, h2, h3, h4, h5, h6, h7⟩
  · unfold Row.blk at hb; rw [e] at hb; simp [Value.ownBlock] at hb
  · have e : g' = g := by unfold Row.blk at hb; rw [h1] at hb; simpa [Value.ownBlock] using hb
    subst e
    refine .inr ⟨g', cap, cur.setIfInBounds j u, h1, h2, set_at h3 j u, h4, h5, by simpa using h6, ?_⟩
    show (cur.setIfInBounds j u).toList.take (x.n * x.size) = x.xs.set j u
    rw [Array.toList_setIfInBounds, List.take_set, h7]
theorem setCell_grownBy (w : World) (g j : Nat) (u : Value) : w.grownBy (w.setCell ⟨g, j, none⟩ u) (some g) :=
  ⟨rfl, rfl, rfl, by simp, fun k _ hne => Below.heap_setCell _ _ _ _ (fun e => hne (congrArg some e))⟩
theorem Rws.set {w0 w : World} {l1 l2 : List Row} {x : Row} (h : Rws w0 (l1 ++ x :: l2) w) {g : Nat} (hb : x.blk = some g) (j : Nat) (u : Value) (hj : j < x.n * x.size) : Rws w0 (l1 ++ ⟨x.v, x.e, x.size, x.n, x.xs.set j u⟩ :: l2) (w.setCell ⟨g, j, none⟩ u) := by
  have hx := h.own x (by simp)
  have hg := setCell_grownBy w g j u
  rw [← hb] at hg
  exact h.grown hg (hx.set hb j u hj) (.inl rfl)
/-- what a row's cells hold -/
theorem Row.At.cell {w : World} {lo : Nat} {x : Row} (h : x.At w lo) {g : Nat} (hb : x.blk = some g) {j : Nat} {u : Value} (hu : x.xs[j]? = some u) : w.cell? ⟨g, j, none⟩ = some u := by
  have := h.cells hb j u hu
  rwa [Go.WideShapes.add_plain, Nat.zero_add] at this
theorem Row.At.free {w : World} {lo : Nat} {x : Row} (h : x.At w lo) {g : Nat} (hb : x.blk = some g) (j : Nat) : w.frozen? ⟨g, j, none⟩ = false := by
  obtain ⟨_, h⟩ := h
  rcases h with ⟨e, _⟩ | ⟨g', cap, cur, h1, _, h3, _⟩
  · unfold Row.blk at hb; rw [e] at hb; simp [Value.ownBlock] at hb
  · have e : g' = g := by unfold Row.blk at hb; rw [h1] at hb; simpa [Value.ownBlock] using hb
    subst e
    exact free_at h3 j
/-- its slice -/
theorem Row.At.slice {w : World} {lo : Nat} {x : Row} (h : x.At w lo) : (x.v = .slice none 0 0 ∧ x.n = 0 ∧ x.xs = []) ∨ ∃ g cap, x.v = .slice (some ⟨g, 0, none⟩) x.n cap ∧ x.blk = some g ∧ x.n ≤ cap ∧ cap ≤ maxLen := by
  obtain ⟨h0, h⟩ := h
  rcases h with ⟨e, h⟩ | ⟨g', cap, cur, h1, _, _, h4, h5, _⟩
  · refine .inl ⟨e, h, ?_⟩
    rw [h, Nat.zero_mul] at h0
    exact List.eq_nil_of_length_eq_zero h0
  · exact .inr ⟨g', cap, h1, by unfold Row.blk; rw [h1]; rfl, h4, h5⟩
/-- the i-th operation, written out -/
theorem op_at {ops : Array Oper} {i : Nat} {o : Oper} {rest : List Oper} (h : ops.toList.drop i = o :: rest) : ops[i]? = some o := by
  have := congrArg List.head? h
  rw [List.head?_drop] at this
  simpa using this
section
variable {P : Program} {ops : Array Oper} {Q : Exit → Act → World → Prop} {md : Region.Mode} {S : World → Prop}
/-- an operation that is wanted and only reads is taken first -/
theorem take_w (i : Nat) {oi : Oper} {rest : List Oper} {v : Value} {fuel : Nat} {listed : Array Bool} {a : Act} {w : World} (h0 : ops.toList.drop i = oi :: rest)
    (hs : Region.noSelect ops = true) (hf : Region.free md ops listed i = true) (hr : (Region.ready md ops listed).contains i = true)
    (hQ : ∀ c a w, Q (.panic c) (a.put oi.dst v) w → Q (.panic c) a w) (hw : Region.wanted oi (yielded ops a.tmps) = true) (hv : ∀ w, S w → (execOp a.eval oi).run P w = .ok (.value v) w) (hS : S w)
    (h : wpAnyH P md ops Q S fuel (listed.setIfInBounds i true) (a.put oi.dst v) w) : wpAnyH P md ops Q S (fuel + 1) listed a w :=
  wpAnyH_take (op_at h0) hs hf hr hQ (.inl ⟨hw, hv⟩) hS h
/-- an operation that is not wanted is passed by -/
theorem take_s (i : Nat) {oi : Oper} {rest : List Oper} {fuel : Nat} {listed : Array Bool} {a : Act} {w : World} (h0 : ops.toList.drop i = oi :: rest)
    (hs : Region.noSelect ops = true) (hf : Region.free md ops listed i = true) (hr : (Region.ready md ops listed).contains i = true)
    (hQ : ∀ c a w, Q (.panic c) (a.put oi.dst undef) w → Q (.panic c) a w) (hw : Region.wanted oi (yielded ops a.tmps) = false) (hS : S w)
    (h : wpAnyH P md ops Q S fuel (listed.setIfInBounds i true) (a.put oi.dst undef) w) : wpAnyH P md ops Q S (fuel + 1) listed a w :=
  wpAnyH_take (op_at h0) hs hf hr hQ (.inr ⟨hw, rfl⟩) hS h
/-- the one operation that may come up is carried out -/
theorem do_one (i : Nat) {o : Oper} {rest : List Oper} {fuel : Nat} {listed : Array Bool} {a : Act} {w : World} (h0 : ops.toList.drop i = o :: rest)
    (hr : Region.ready md ops listed = [i]) (hw : Region.wanted o (yielded ops a.tmps) = true)
    (h : ∀ K' : Act → World → Prop, Hid (∀ a w, S w → (S w → wpAnyH P md ops Q S fuel (listed.setIfInBounds i true) a w) → K' a w) → Oper.wp P o a w K' Q) : wpAnyH P md ops Q S (fuel + 1) listed a w :=
  wpAnyH_ready hr (by simp) (AllReadyH.cons (op_at h0) (fun K' hK => by rw [if_pos hw]; exact h K' hK) AllReadyH.nil)
end

/-- only blocks of S may have changed -/
structure FrB (S : Nat → Prop) (w w' : World) : Prop where
  os : w'.os = w.os
  tape : w'.tape = w.tape
  output : w'.output = w.output
  size : w.heap.size ≤ w'.heap.size
  block : ∀ k, k < w.heap.size → ¬ S k → w'.heap[k]? = w.heap[k]?
theorem FrB.of_below {S : Nat → Prop} {w w' : World} (h : Below w.heap.size w w') : FrB S w w' := ⟨h.os, h.tape, h.output, h.size, fun k hk _ => h.block k hk⟩
theorem FrB.trans {S : Nat → Prop} {a b c : World} (h : FrB S a b) (k : FrB S b c) : FrB S a c := ⟨k.os.trans h.os, k.tape.trans h.tape, k.output.trans h.output, Nat.le_trans h.size k.size, fun i hi hn => (k.block i (Nat.lt_of_lt_of_le hi h.size) hn).trans (h.block i hi hn)⟩
theorem FrB.grown {S : Nat → Prop} {w w' : World} {r : Option Nat} (h : w.grownBy w' r) (hr : ∀ k, r = some k → S k) : FrB S w w' := ⟨h.os, h.tape, h.output, h.size, fun k hk hn => h.block k hk (fun e => hn (hr k e.symm))⟩
theorem FrB.set {S : Nat → Prop} (w : World) (b j : Nat) (u : Value) (hb : S b) : FrB S w (w.setCell ⟨b, j, none⟩ u) := FrB.grown (setCell_grownBy w b j u) (fun k e => by cases e; exact hb)

theorem bl_set (b : Nat) (cs : List Value) (t : TypeId) (j : Nat) (u : Value) : (⟨(bl b cs t).v, (bl b cs t).e, (bl b cs t).size, (bl b cs t).n, (bl b cs t).xs.set j u⟩ : Row) = bl b (cs.set j u) t := by
  unfold bl; simp

end Go.Proofs.Ytpbaodjmkdcihaa.PK
