/-
  Texts of the proof of SaidEdit9, side by side: Args9, LawFits9.
-/
import Derived.Test.YtloajjaaidmaiaaGreatMpE20
import Derived.Lib.SmallJoins
import Derived.OpenShut
import Derived.Deep.Slices
import Derived.Test.YtloajjaaidmaiaaGreatMpE30
import Derived.Test.YtloajjaaidmaiaaGreatMpE31
import Derived.Deep.CutRange
import Derived.Deep.CutBlock
/-
  A list of items as an argument; one item.
-/
namespace Go.Proofs.YtloajjaaidmaiaaGreat.P9
open Go Go.RowKit Go.Lib Go.WideShapes Go.ChangeShapes Go.ChangeAt Go.Proofs.YtloajjaaidmaiaaGreat.PK

theorem cellsItem9 : Tryz.prog.cellsOf 50 = 3 := by kernel_rfl
theorem cellsInt9 : Tryz.prog.cellsOf 3 = 1 := by kernel_rfl
theorem cellsStr9 : Tryz.prog.cellsOf 9 = 1 := by kernel_rfl
/-- items as an argument -/
def ItsA (w : World) (v : Value) (l : List It) : Prop := ItsIn w v l ∧ Wide v
section
variable {H : Type} {enc : TypeId × Value → H} {w : World} {base : Nat} {sp : Nat → Bool} {held : Bool}
set_option maxRecDepth 100000 in
theorem item_cells {n : Nat} {cs : List Value} {x : DataW H × List MemPlace} (h : DataW.trod enc Tryz.prog w base sp held n 50 cs = some x) : ∃ o : It, cs = o.cells := by
  obtain ⟨xs, m, _, _, hl, hxl, hf⟩ := DataW.trod_struct Tryz.underlying50 h
  rw [cellsItem9] at hl
  match cs, hl with
  | [c0, c1, c2], _ =>
    have hx : ∀ i, i < 3 → ∃ y, xs[i]? = some y := fun i hi => ⟨_, List.getElem?_eq_getElem (by rw [hxl]; exact hi)⟩
    obtain ⟨y0, e0⟩ := hx 0 (by omega)
    obtain ⟨y1, e1⟩ := hx 1 (by omega)
    obtain ⟨y2, e2⟩ := hx 2 (by omega)
    have f0 : DataW.trod enc Tryz.prog w base sp held m 9 (([c0, c1, c2].drop 0).take (Tryz.prog.cellsOf 9)) = some y0 := (hf 0 _ rfl).trans e0
    have f1 : DataW.trod enc Tryz.prog w base sp held m 9 (([c0, c1, c2].drop 1).take (Tryz.prog.cellsOf 9)) = some y1 := (hf 1 _ rfl).trans e1
    have f2 : DataW.trod enc Tryz.prog w base sp held m 3 (([c0, c1, c2].drop 2).take (Tryz.prog.cellsOf 3)) = some y2 := (hf 2 _ rfl).trans e2
    rw [cellsStr9] at f0 f1
    rw [cellsInt9] at f2
    obtain ⟨s, g0, _, w0⟩ := DataW.trod_string Tryz.underlying9 f0
    obtain ⟨t, g1, _, w1⟩ := DataW.trod_string Tryz.underlying9 f1
    obtain ⟨k, g2, _, w2⟩ := DataW.trod_int Tryz.underlying3 f2
    obtain rfl : c0 = .string s := by simpa using g0
    obtain rfl : c1 = .string t := by simpa using g1
    obtain rfl : c2 = .int .i64 k := by simpa using g2
    exact ⟨⟨s, t, k⟩, rfl⟩
set_option maxRecDepth 100000 in
theorem items_open {n : Nat} {v : Value} {x : DataW H × List MemPlace} (h : DataW.trod enc Tryz.prog w base sp held n 22 [v] = some x) : ∃ l, ItsA w v l := by
  rcases Deep.open_slice Tryz.underlying22 h with ⟨hv, _⟩ | ⟨a, len, cap, m, q, D, Pl, hv, _, hl, hm, hmm, hx, hi⟩
  · simp only [List.cons.injEq, and_true] at hv
    exact ⟨[], ⟨none, 0, hv, fun _ => rfl, by simp [cellsI], cellsI_ok _, fun h => absurd h (by simp [cellsI])⟩, none, 0, 0, hv, Nat.le_refl _, by omega⟩
  · simp only [List.cons.injEq, and_true] at hv
    have hlm : len ≤ m := by rw [hmm]; split <;> omega
    unfold maxLen at hm
    have hch : ∀ i, i < len → ∃ o : It, (∀ j, j < 3 → w.cell? ((a.add (i * 3)).add j) = o.cells[j]?) := fun i hil => by
      obtain ⟨cs', h1, h2⟩ := hi i (by omega)
      obtain ⟨o, rfl⟩ := item_cells h2
      rw [cellsItem9] at h1
      exact ⟨o, (World.cells?_some h1).2.2⟩
    obtain ⟨f, hf⟩ : ∃ f : Nat → It, ∀ i, i < len → (∀ j, j < 3 → w.cell? ((a.add (i * 3)).add j) = (f i).cells[j]?) := by
      refine ⟨fun i => if h : i < len then Classical.choose (hch i h) else ⟨⟨#[]⟩, ⟨#[]⟩, 0⟩, fun i hil => ?_⟩
      simp only [hil, dif_pos]
      exact Classical.choose_spec (hch i hil)
    refine ⟨(List.range len).map f, ⟨some a, cap, by rw [hv, cellsI_length]; simp, (fun e => by cases e), by rw [cellsI_length]; simp; omega, cellsI_ok _, fun h0 => ?_⟩, some a, len, cap, hv, hl, by omega⟩
    have h0' : 0 < len := by
      rw [cellsI_length] at h0
      simpa using h0
    obtain ⟨b, off, spot⟩ := a
    have hc0 := hf 0 h0' 0 (by omega)
    have hspot : spot = none := by
      have := World.cell?_spot (w := w) (a := ((⟨b, off, spot⟩ : Addr).add (0 * 3)).add 0) hc0
      simpa [Addr.add] using this
    subst hspot
    have hadd : ∀ i j : Nat, ((⟨b, off, none⟩ : Addr).add (i * 3)).add j = ⟨b, off + i * 3 + j, none⟩ := fun i j => by
      rw [Go.WideShapes.add_plain, Go.WideShapes.add_plain]
    refine ⟨b, off, rfl, ?_, fun i y hy j u hju => ?_⟩
    · rw [hadd] at hc0
      exact World.block_lt_of_cell? w _ hc0
    · unfold cellsI at hy
      rw [List.map_map, List.getElem?_map] at hy
      obtain ⟨i', hi', rfl⟩ := Option.map_eq_some_iff.1 hy
      have hil : i < len := by have := (List.getElem?_eq_some_iff.1 hi').1; simpa using this
      rw [List.getElem?_range hil] at hi'
      obtain rfl : i = i' := Option.some.inj hi'
      have hj4 : j < 3 := (List.getElem?_eq_some_iff.1 hju).1
      have h1 := hf i hil j hj4
      rw [hadd] at h1
      show w.cell? ⟨b, off + (i * 3 + j), none⟩ = some u
      rw [show off + (i * 3 + j) = off + i * 3 + j by omega, h1]
      exact hju
end
end Go.Proofs.YtloajjaaidmaiaaGreat.P9

/-
  P901, P902: the walk of the statement LeafFits.
-/
namespace Go.Proofs.YtloajjaaidmaiaaGreat.P9
open Go Go.RowKit Go.Lib Go.Proofs.YtloajjaaidmaiaaGreat.PK

theorem right_d (w : World) (v : Value) (l : List It) (h : ItsIn w v l) (d : Bool) (hd : d = true ↔ RightI l) : Calls Tryz.prog 21 #[v] w fun e w' => e = .returned (.bool d) ∧ Below w.heap.size w w' := by
  refine (rright_any w v l h).mono ?_
  rintro e w' ⟨⟨b, rfl, hb⟩, k⟩
  refine ⟨?_, k⟩
  have : b = d := by
    rw [Bool.eq_iff_iff, hb, hd]
  rw [this]
theorem item_kept (w : World) (x : It) : ∀ W, Below (w.alloc (.cells #[.string x.key, .string x.val, .int .i64 x.kind] 50)).heap.size (w.alloc (.cells #[.string x.key, .string x.val, .int .i64 x.kind] 50)) W → ∀ (j : Nat) (u : Value), ([.string x.key, .string x.val, .int .i64 x.kind] : List Value)[j]? = some u → W.cell? ((⟨w.heap.size, 0, none⟩ : Addr).add j) = some u := fun W hW j u hu => by
  have h9 := cells_new w [.string x.key, .string x.val, .int .i64 x.kind] 50 j u hu
  rw [Go.WideShapes.add_plain, Nat.zero_add] at h9 ⊢
  exact (hW.cell (p := ⟨w.heap.size, j, none⟩) (by simp)).trans h9
/-- two operations that may come up: both orders -/
theorem do_two {P : Program} {ops : Array Oper} {Q : Exit → Act → World → Prop} {md : Region.Mode} {S : World → Prop} (i j : Nat) {oi oj : Oper} {ri rj : List Oper} {fuel : Nat} {listed : Array Bool} {a : Act} {w : World} (h0 : ops.toList.drop i = oi :: ri) (h1 : ops.toList.drop j = oj :: rj)
    (hr : Region.ready md ops listed = [i, j]) (hwi : Region.wanted oi (yielded ops a.tmps) = true) (hwj : Region.wanted oj (yielded ops a.tmps) = true)
    (hi : ∀ K' : Act → World → Prop, Hid (∀ a w, S w → (S w → wpAnyH P md ops Q S fuel (listed.setIfInBounds i true) a w) → K' a w) → Oper.wp P oi a w K' Q)
    (hj : ∀ K' : Act → World → Prop, Hid (∀ a w, S w → (S w → wpAnyH P md ops Q S fuel (listed.setIfInBounds j true) a w) → K' a w) → Oper.wp P oj a w K' Q) : wpAnyH P md ops Q S (fuel + 1) listed a w :=
  wpAnyH_ready hr (by simp) (AllReadyH.cons (op_at h0) (fun K' hK => by rw [if_pos hwi]; exact hi K' hK) (AllReadyH.cons (op_at h1) (fun K' hK => by rw [if_pos hwj]; exact hj K' hK) AllReadyH.nil))

/-- behind Cut -/
def FS (w W : World) (v : Value) (us : List Value) (P : List (List It)) : Prop := ∃ a, Below w.heap.size w a ∧ CutR a W v us P
theorem FS.over {w W W' : World} {v : Value} {us : List Value} {P : List (List It)} (h : FS w W v us P) (k : Below W.heap.size W W') : FS w W' v us P := by
  obtain ⟨a, h1, h2⟩ := h
  exact ⟨a, h1, h2.over k⟩
theorem FS.below {w W : World} {v : Value} {us : List Value} {P : List (List It)} (h : FS w W v us P) : Below w.heap.size w W := by
  obtain ⟨a, h1, h2⟩ := h
  exact thenBelow h1 h2.2.below
theorem FS.len {w W : World} {v : Value} {us : List Value} {P : List (List It)} (h : FS w W v us P) : us.length = P.length := by
  obtain ⟨a, h1, h2⟩ := h
  exact h2.1
theorem FS.shape {w W : World} {v : Value} {us : List Value} {P : List (List It)} (h : FS w W v us P) : ∃ a c, v = .slice a P.length c := by
  have hl := h.len
  obtain ⟨a, h1, h2⟩ := h
  obtain ⟨x, c, e⟩ := len_owned h2.own
  rw [hl] at e
  exact ⟨x, c, e⟩
/-- a part, where it stands -/
theorem FS.at_ {w W : World} {a : Option Addr} {n c : Nat} {us : List Value} {P : List (List It)} (h : FS w W (.slice a n c) us P) (hm : ∀ p ∈ P, p.length ≤ 1000000) {i : Nat} {p : List It} (hi : P[i]? = some p) :
    ∃ g, a = some ⟨g, 0, none⟩ ∧ ∃ pa pc, ∀ W', Below W.heap.size W W' → W'.cell? ⟨g, i, none⟩ = some (.slice pa p.length pc) ∧ ItsIn W' (.slice pa p.length pc) p := by
  have hl := h.len
  obtain ⟨w0, h1, h2⟩ := h
  have hlt := (List.getElem?_eq_some_iff.1 hi).1
  obtain ⟨u, hu⟩ : ∃ u, us[i]? = some u := ⟨_, List.getElem?_eq_getElem (by omega)⟩
  obtain ⟨g, cap, e, _, _, hg⟩ := owns_form h2.own (by omega)
  simp only [Value.slice.injEq] at e
  obtain ⟨rfl, _, rfl⟩ := e
  have hI := h2.part hu hi (hm p (List.mem_of_getElem? hi))
  obtain ⟨pa, pc, rfl⟩ := hI.slice
  refine ⟨g, rfl, pa, pc, fun W' hW => ⟨?_, hI.below hW⟩⟩
  have hcell := h2.own.cells rfl i _ hu
  rw [Go.WideShapes.add_plain, Nat.zero_add] at hcell
  exact (hW.cell (p := ⟨g, i, none⟩) hg).trans hcell

end Go.Proofs.YtloajjaaidmaiaaGreat.P9
