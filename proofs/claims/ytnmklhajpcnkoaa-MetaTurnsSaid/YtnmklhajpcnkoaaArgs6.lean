/-
  A meta as an argument, and a list of metas.
-/
import Derived.Test.YtnmklhajpcnkoaaMt15
import Derived.Lib.SmallJoins
import Derived.OpenShut
import Derived.Deep.Slices
namespace Go.Proofs.Ytnmklhajpcnkoaa.P6
open Go Go.RowKit Go.Lib Go.WideShapes Go.ChangeShapes Go.ChangeAt Go.Proofs.Ytnmklhajpcnkoaa.P0

theorem cellsMeta : Try.prog.cellsOf 23 = 4 := by kernel_rfl
theorem cellsInt6 : Try.prog.cellsOf 3 = 1 := by kernel_rfl
section
variable {H : Type} {enc : TypeId × Value → H} {w : World} {base : Nat} {sp : Nat → Bool} {held : Bool}
theorem meta_open {r : Reach} {b0 : Nat} {v : Value} {d : DataW H} {p : List MemPlace} (hv : Value.okWide Try.prog w r b0 23 v) (h : DataW.Trod enc Try.prog w base sp held 23 v d p) : ∃ q : Mt, v = q.v := by
  obtain ⟨v0, v1, v2, v3, y0, y1, y2, y3, n, rfl, _, _, f0, f1, f2, f3⟩ := Go.Joins.open_agg4 Try.underlying23 (by kernel_rfl) (by kernel_rfl) hv h
  obtain ⟨k, g0, _, w0⟩ := DataW.trod_int Try.underlying3 f0
  obtain ⟨i, g1, _, w1⟩ := DataW.trod_int Try.underlying3 f1
  obtain ⟨t, g2, _, w2⟩ := DataW.trod_int Try.underlying3 f2
  obtain ⟨s, g3, _, w3⟩ := DataW.trod_int Try.underlying3 f3
  obtain rfl : v0 = .int .i64 k := by simpa using g0
  obtain rfl : v1 = .int .i64 i := by simpa using g1
  obtain rfl : v2 = .int .i64 t := by simpa using g2
  obtain rfl : v3 = .int .i64 s := by simpa using g3
  exact ⟨⟨k, i, t, s⟩, rfl⟩
set_option maxRecDepth 100000 in
theorem meta_cells {n : Nat} {cs : List Value} {x : DataW H × List MemPlace} (h : DataW.trod enc Try.prog w base sp held n 23 cs = some x) : ∃ o : Mt, cs = o.cells.toList := by
  obtain ⟨xs, m, _, _, hl, hxl, hf⟩ := DataW.trod_struct Try.underlying23 h
  rw [cellsMeta] at hl
  match cs, hl with
  | [c0, c1, c2, c3], _ =>
    have hx : ∀ i, i < 4 → ∃ y, xs[i]? = some y := fun i hi => ⟨_, List.getElem?_eq_getElem (by rw [hxl]; exact hi)⟩
    obtain ⟨y0, e0⟩ := hx 0 (by omega)
    obtain ⟨y1, e1⟩ := hx 1 (by omega)
    obtain ⟨y2, e2⟩ := hx 2 (by omega)
    obtain ⟨y3, e3⟩ := hx 3 (by omega)
    have f0 : DataW.trod enc Try.prog w base sp held m 3 (([c0, c1, c2, c3].drop 0).take (Try.prog.cellsOf 3)) = some y0 := (hf 0 _ rfl).trans e0
    have f1 : DataW.trod enc Try.prog w base sp held m 3 (([c0, c1, c2, c3].drop 1).take (Try.prog.cellsOf 3)) = some y1 := (hf 1 _ rfl).trans e1
    have f2 : DataW.trod enc Try.prog w base sp held m 3 (([c0, c1, c2, c3].drop 2).take (Try.prog.cellsOf 3)) = some y2 := (hf 2 _ rfl).trans e2
    have f3 : DataW.trod enc Try.prog w base sp held m 3 (([c0, c1, c2, c3].drop 3).take (Try.prog.cellsOf 3)) = some y3 := (hf 3 _ rfl).trans e3
    rw [cellsInt6] at f0 f1 f2 f3
    obtain ⟨k, g0, _, w0⟩ := DataW.trod_int Try.underlying3 f0
    obtain ⟨p, g1, _, w1⟩ := DataW.trod_int Try.underlying3 f1
    obtain ⟨q, g2, _, w2⟩ := DataW.trod_int Try.underlying3 f2
    obtain ⟨t, g3, _, w3⟩ := DataW.trod_int Try.underlying3 f3
    obtain rfl : c0 = .int .i64 k := by simpa using g0
    obtain rfl : c1 = .int .i64 p := by simpa using g1
    obtain rfl : c2 = .int .i64 q := by simpa using g2
    obtain rfl : c3 = .int .i64 t := by simpa using g3
    exact ⟨⟨k, p, q, t⟩, rfl⟩
/-- a list of metas -/
def MetasIn (w : World) (v : Value) (l : List Mt) : Prop :=
  ∃ a c, v = .slice a l.length c ∧ l.length ≤ 9223372036854775807 ∧ (0 < l.length → ∃ b off, a = some ⟨b, off, none⟩ ∧ b < w.heap.size ∧ ∀ i (o : Mt), l[i]? = some o → ∀ j u, o.cells.toList[j]? = some u → w.cell? ⟨b, off + i * 4 + j, none⟩ = some u)
set_option maxRecDepth 100000 in
theorem metas_open {n : Nat} {v : Value} {x : DataW H × List MemPlace} (h : DataW.trod enc Try.prog w base sp held n 42 [v] = some x) : ∃ l, MetasIn w v l := by
  rcases Deep.open_slice Try.underlying42 h with ⟨hv, _⟩ | ⟨a, len, cap, m, q, D, Pl, hv, _, hl, hm, hmm, hx, hi⟩
  · simp only [List.cons.injEq, and_true] at hv
    exact ⟨[], none, 0, hv, by simp, fun h => absurd h (Nat.lt_irrefl _)⟩
  · simp only [List.cons.injEq, and_true] at hv
    have hlm : len ≤ m := by rw [hmm]; split <;> omega
    have hch : ∀ i, i < len → ∃ o : Mt, (∀ j, j < 4 → w.cell? ((a.add (i * 4)).add j) = o.cells.toList[j]?) := fun i hil => by
      obtain ⟨cs', h1, h2⟩ := hi i (by omega)
      obtain ⟨o, rfl⟩ := meta_cells h2
      rw [cellsMeta] at h1
      exact ⟨o, (World.cells?_some h1).2.2⟩
    obtain ⟨f, hf⟩ : ∃ f : Nat → Mt, ∀ i, i < len → (∀ j, j < 4 → w.cell? ((a.add (i * 4)).add j) = (f i).cells.toList[j]?) := by
      refine ⟨fun i => if h : i < len then Classical.choose (hch i h) else Mt.zero, fun i hil => ?_⟩
      simp only [hil, dif_pos]
      exact Classical.choose_spec (hch i hil)
    refine ⟨(List.range len).map f, some a, cap, by rw [hv]; simp, by simp; unfold maxLen at hm; omega, fun h0 => ?_⟩
    have h0' : 0 < len := by simpa using h0
    obtain ⟨b, off, spot⟩ := a
    have hc0 := hf 0 h0' 0 (by omega)
    have hspot : spot = none := by
      have := World.cell?_spot (w := w) (a := ((⟨b, off, spot⟩ : Addr).add (0 * 4)).add 0) hc0
      simpa [Addr.add] using this
    subst hspot
    have hadd : ∀ i j : Nat, ((⟨b, off, none⟩ : Addr).add (i * 4)).add j = ⟨b, off + i * 4 + j, none⟩ := fun i j => by
      rw [Go.WideShapes.add_plain, Go.WideShapes.add_plain]
    refine ⟨b, off, rfl, ?_, fun i o hio => ?_⟩
    · rw [hadd] at hc0
      exact World.block_lt_of_cell? w _ hc0
    · have hil : i < len := by have := (List.getElem?_eq_some_iff.1 hio).1; simpa using this
      rw [List.getElem?_map, List.getElem?_range hil] at hio
      obtain rfl : f i = o := by simpa using hio
      intro j u hju
      have hj4 : j < 4 := (List.getElem?_eq_some_iff.1 hju).1
      have h1 := hf i hil j hj4
      rw [hadd, hju] at h1
      exact h1
end
theorem MetasIn.below {w w' : World} {v : Value} {l : List Mt} (h : MetasIn w v l) (hb : Below w.heap.size w w') : MetasIn w' v l := by
  obtain ⟨a, c, h1, hl, h2⟩ := h
  refine ⟨a, c, h1, hl, fun h0 => ?_⟩
  obtain ⟨b, off, h3, h4, h5⟩ := h2 h0
  exact ⟨b, off, h3, Nat.lt_of_lt_of_le h4 hb.size, fun i o hio j u hju => by rw [hb.cell (p := ⟨b, off + i * 4 + j, none⟩) h4]; exact h5 i o hio j u hju⟩

/-- blocks of one's own, each another one -/
structure Bkd (w0 : World) (l : List (Nat × Array Value × TypeId)) (w : World) : Prop where
  bks : Bks w0 l w
  nd : (l.map (·.1)).Nodup
theorem Bkd.nil (w : World) : Bkd w [] w := ⟨Bks.nil w, List.nodup_nil⟩
theorem Bkd.over {w0 : World} {l : List (Nat × Array Value × TypeId)} {w w' : World} (h : Bkd w0 l w) (k : Below w.heap.size w w') : Bkd w0 l w' := ⟨h.bks.over k, h.nd⟩
theorem Bkd.new {w0 : World} {l : List (Nat × Array Value × TypeId)} {w : World} (h : Bkd w0 l w) (cs : Array Value) (t : TypeId) : Bkd w0 ((w.heap.size, cs, t) :: l) (w.alloc (.cells cs t)) := by
  refine ⟨h.bks.new cs t, ?_⟩
  rw [List.map_cons, List.nodup_cons]
  refine ⟨fun hm => ?_, h.nd⟩
  obtain ⟨x, hx, e⟩ := List.mem_map.1 hm
  have := lt_of_block (h.bks.have_ x hx).1
  omega
/-- a cell of the i-th block is set -/
theorem Bkd.set {w0 : World} {l : List (Nat × Array Value × TypeId)} {w : World} (h : Bkd w0 l w) (i : Nat) {b : Nat} {cs : Array Value} {t : TypeId} (e : l[i]? = some (b, cs, t)) (j : Nat) (v : Value) : Bkd w0 (l.set i (b, cs.setIfInBounds j v, t)) (w.setCell ⟨b, j, none⟩ v) := by
  have hi : i < l.length := (List.getElem?_eq_some_iff.1 e).1
  have he : l[i] = (b, cs, t) := (List.getElem?_eq_some_iff.1 e).2
  have hm : (l.set i (b, cs.setIfInBounds j v, t)).map (·.1) = l.map (·.1) := by
    rw [List.map_set]
    apply List.ext_getElem?
    intro k
    by_cases hk : k = i
    · subst hk
      rw [List.getElem?_set_self (by simpa using hi), List.getElem?_map, e]
      rfl
    · rw [List.getElem?_set_ne (Ne.symm hk)]
  refine ⟨⟨fun x hx => ?_, h.bks.below.setCell (h.bks.lo i e) v⟩, by rw [hm]; exact h.nd⟩
  obtain ⟨k, hk, rfl⟩ := List.mem_iff_getElem.1 hx
  rw [List.length_set] at hk
  by_cases hki : k = i
  · subst hki
    rw [List.getElem_set_self]
    exact ⟨set_at (h.bks.at_ k e) j v, h.bks.lo k e⟩
  · rw [List.getElem_set_ne (Ne.symm hki)]
    have h1 := h.bks.have_ l[k] (List.getElem_mem hk)
    refine ⟨?_, h1.2⟩
    rw [Below.heap_setCell _ _ _ _ ?_]
    · exact h1.1
    · intro e2
      have hn := List.pairwise_iff_getElem.1 h.nd
      have hkl : k < (l.map (·.1)).length := by simpa using hk
      have hil : i < (l.map (·.1)).length := by simpa using hi
      have e3 : (l.map (·.1))[k] = (l.map (·.1))[i] := by
        rw [List.getElem_map, List.getElem_map, he, e2]
      rcases Nat.lt_or_gt_of_ne hki with q | q
      · exact hn k i hkl hil q e3
      · exact hn i k hil hkl q e3.symm
theorem cells2 {w : World} {a : Nat} {c0 c1 : Value} {t : TypeId} (h : w.heap[a]? = some (.cells #[c0, c1] t (0, 0))) :
    w.cell? ⟨a, 0, none⟩ = some c0 ∧ w.cell? ⟨a, 1, none⟩ = some c1 :=
  ⟨cell_at h 0, cell_at h 1⟩
theorem free2 {w : World} {a : Nat} {cs : Array Value} {t : TypeId} (h : w.heap[a]? = some (.cells cs t (0, 0))) :
    w.frozen? ⟨a, 0, none⟩ = false ∧ w.frozen? ⟨a, 1, none⟩ = false :=
  ⟨free_at h 0, free_at h 1⟩

end Go.Proofs.Ytnmklhajpcnkoaa.P6
