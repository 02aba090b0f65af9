/-
  Texts of the proof of SaidKeeps8, side by side: Args8.
-/
import Derived.Test.YtbkngnjkaledlaaGreatMk36
import Derived.Lib.SmallJoins
import Derived.OpenShut
import Derived.Deep.Slices
/-
  A list of pages as an argument.
-/
namespace Go.Proofs.YtbkngnjkaledlaaGreat.P8
open Go Go.RowKit Go.Lib Go.WideShapes Go.ChangeShapes Go.ChangeAt
open Go.Proofs.YtbkngnjkaledlaaGreat.P5 (Pg)

theorem cellsPage8 : Tryz.prog.cellsOf 47 = 4 := by kernel_rfl
theorem cellsInt8 : Tryz.prog.cellsOf 3 = 1 := by kernel_rfl
theorem cellsStr8 : Tryz.prog.cellsOf 9 = 1 := by kernel_rfl
section
variable {H : Type} {enc : TypeId × Value → H} {w : World} {base : Nat} {sp : Nat → Bool} {held : Bool}
set_option maxRecDepth 100000 in
theorem page_cells {n : Nat} {cs : List Value} {x : DataW H × List MemPlace} (h : DataW.trod enc Tryz.prog w base sp held n 47 cs = some x) : ∃ o : Pg, cs = o.cells.toList := by
  obtain ⟨xs, m, _, _, hl, hxl, hf⟩ := DataW.trod_struct Tryz.underlying47 h
  rw [cellsPage8] at hl
  match cs, hl with
  | [c0, c1, c2, c3], _ =>
    have hx : ∀ i, i < 4 → ∃ y, xs[i]? = some y := fun i hi => ⟨_, List.getElem?_eq_getElem (by rw [hxl]; exact hi)⟩
    obtain ⟨y0, e0⟩ := hx 0 (by omega)
    obtain ⟨y1, e1⟩ := hx 1 (by omega)
    obtain ⟨y2, e2⟩ := hx 2 (by omega)
    obtain ⟨y3, e3⟩ := hx 3 (by omega)
    have f0 : DataW.trod enc Tryz.prog w base sp held m 3 (([c0, c1, c2, c3].drop 0).take (Tryz.prog.cellsOf 3)) = some y0 := (hf 0 _ rfl).trans e0
    have f1 : DataW.trod enc Tryz.prog w base sp held m 3 (([c0, c1, c2, c3].drop 1).take (Tryz.prog.cellsOf 3)) = some y1 := (hf 1 _ rfl).trans e1
    have f2 : DataW.trod enc Tryz.prog w base sp held m 3 (([c0, c1, c2, c3].drop 2).take (Tryz.prog.cellsOf 3)) = some y2 := (hf 2 _ rfl).trans e2
    have f3 : DataW.trod enc Tryz.prog w base sp held m 9 (([c0, c1, c2, c3].drop 3).take (Tryz.prog.cellsOf 9)) = some y3 := (hf 3 _ rfl).trans e3
    rw [cellsInt8] at f0 f1 f2
    rw [cellsStr8] at f3
    obtain ⟨k, g0, _, w0⟩ := DataW.trod_int Tryz.underlying3 f0
    obtain ⟨p, g1, _, w1⟩ := DataW.trod_int Tryz.underlying3 f1
    obtain ⟨q, g2, _, w2⟩ := DataW.trod_int Tryz.underlying3 f2
    obtain ⟨t, g3, _, w3⟩ := DataW.trod_string Tryz.underlying9 f3
    obtain rfl : c0 = .int .i64 k := by simpa using g0
    obtain rfl : c1 = .int .i64 p := by simpa using g1
    obtain rfl : c2 = .int .i64 q := by simpa using g2
    obtain rfl : c3 = .string t := by simpa using g3
    exact ⟨⟨k, p, q, t⟩, rfl⟩
set_option maxRecDepth 100000 in
theorem pages_open {n : Nat} {v : Value} {x : DataW H × List MemPlace} (h : DataW.trod enc Tryz.prog w base sp held n 39 [v] = some x) : ∃ l, PagesIn w v l := by
  rcases Deep.open_slice Tryz.underlying39 h with ⟨hv, _⟩ | ⟨a, len, cap, m, q, D, Pl, hv, _, hl, hm, hmm, hx, hi⟩
  · simp only [List.cons.injEq, and_true] at hv
    exact ⟨[], none, 0, hv, by simp, fun h => absurd h (Nat.lt_irrefl _)⟩
  · simp only [List.cons.injEq, and_true] at hv
    have hlm : len ≤ m := by rw [hmm]; split <;> omega
    have hch : ∀ i, i < len → ∃ o : Pg, (∀ j, j < 4 → w.cell? ((a.add (i * 4)).add j) = o.cells.toList[j]?) := fun i hil => by
      obtain ⟨cs', h1, h2⟩ := hi i (by omega)
      obtain ⟨o, rfl⟩ := page_cells h2
      rw [cellsPage8] at h1
      exact ⟨o, (World.cells?_some h1).2.2⟩
    obtain ⟨f, hf⟩ : ∃ f : Nat → Pg, ∀ i, i < len → (∀ j, j < 4 → w.cell? ((a.add (i * 4)).add j) = (f i).cells.toList[j]?) := by
      refine ⟨fun i => if h : i < len then Classical.choose (hch i h) else Pg.zero, fun i hil => ?_⟩
      simp only [hil, dif_pos]
      exact Classical.choose_spec (hch i hil)
    refine ⟨(List.range len).map f, some a, cap, by rw [hv]; simp, by simp; unfold maxLen at hm; omega, fun h0 => ?_⟩
    have h0' : 0 < len := by simpa using h0
    obtain ⟨b, off, spot⟩ := a
    have hc0 := hf 0 h0' 0 (by omega)
    have hspot : spot = none := by
      have := World.cell?_spot (w := w) (a := ((⟨b, off, spot⟩ : Addr).add (0 * 4)).add 0) hc0
      simpa [Addr.add] using this
    subst hspot
    have hadd : ∀ i j : Nat, ((⟨b, off, none⟩ : Addr).add (i * 4)).add j = ⟨b, off + i * 4 + j, none⟩ := fun i j => by
      rw [Go.WideShapes.add_plain, Go.WideShapes.add_plain]
    refine ⟨b, off, rfl, ?_, fun i o hio => ?_⟩
    · rw [hadd] at hc0
      exact World.block_lt_of_cell? w _ hc0
    · have hil : i < len := by have := (List.getElem?_eq_some_iff.1 hio).1; simpa using this
      rw [List.getElem?_map, List.getElem?_range hil] at hio
      obtain rfl : f i = o := by simpa using hio
      intro j u hju
      have hj4 : j < 4 := (List.getElem?_eq_some_iff.1 hju).1
      have h1 := hf i hil j hj4
      rw [hadd, hju] at h1
      exact h1
end
end Go.Proofs.YtbkngnjkaledlaaGreat.P8
