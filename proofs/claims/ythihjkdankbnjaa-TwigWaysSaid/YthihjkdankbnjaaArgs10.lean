/-
  A list of children as an argument.
-/
import Derived.Test.YthihjkdankbnjaaT5
import Derived.Lib.SmallJoins
import Derived.OpenShut
import Derived.Deep.Slices
namespace Go.Proofs.Ythihjkdankbnjaa.P10
open Go Go.RowKit Go.Lib Go.WideShapes Go.ChangeShapes Go.ChangeAt Go.Proofs.Ythihjkdankbnjaa.PK

theorem cellsKid10 : Try.prog.cellsOf 26 = 2 := by kernel_rfl
theorem cellsInt10 : Try.prog.cellsOf 3 = 1 := by kernel_rfl
theorem cellsStr10 : Try.prog.cellsOf 9 = 1 := by kernel_rfl
/-- a slice that an argument may be -/
def Wide (v : Value) : Prop := ∃ a n c, v = .slice a n c ∧ n ≤ c ∧ c ≤ 9223372036854775807
/-- children as an argument -/
def KidsA (w : World) (v : Value) (l : List It) : Prop := ItsIn w v l ∧ Wide v
section
variable {H : Type} {enc : TypeId × Value → H} {w : World} {base : Nat} {sp : Nat → Bool} {held : Bool}
set_option maxRecDepth 100000 in
theorem kid_cells {n : Nat} {cs : List Value} {x : DataW H × List MemPlace} (h : DataW.trod enc Try.prog w base sp held n 26 cs = some x) : ∃ o : It, cs = o.cells := by
  obtain ⟨xs, m, _, _, hl, hxl, hf⟩ := DataW.trod_struct Try.underlying26 h
  rw [cellsKid10] at hl
  match cs, hl with
  | [c0, c1], _ =>
    have hx : ∀ i, i < 2 → ∃ y, xs[i]? = some y := fun i hi => ⟨_, List.getElem?_eq_getElem (by rw [hxl]; exact hi)⟩
    obtain ⟨y0, e0⟩ := hx 0 (by omega)
    obtain ⟨y1, e1⟩ := hx 1 (by omega)
    have f0 : DataW.trod enc Try.prog w base sp held m 9 (([c0, c1].drop 0).take (Try.prog.cellsOf 9)) = some y0 := (hf 0 _ rfl).trans e0
    have f2 : DataW.trod enc Try.prog w base sp held m 3 (([c0, c1].drop 1).take (Try.prog.cellsOf 3)) = some y1 := (hf 1 _ rfl).trans e1
    rw [cellsStr10] at f0
    rw [cellsInt10] at f2
    obtain ⟨s, g0, _, w0⟩ := DataW.trod_string Try.underlying9 f0
    obtain ⟨k, g2, _, w2⟩ := DataW.trod_int Try.underlying3 f2
    obtain rfl : c0 = .string s := by simpa using g0
    obtain rfl : c1 = .int .i64 k := by simpa using g2
    exact ⟨⟨s, k⟩, rfl⟩
set_option maxRecDepth 100000 in
theorem kids_open {n : Nat} {v : Value} {x : DataW H × List MemPlace} (h : DataW.trod enc Try.prog w base sp held n 22 [v] = some x) : ∃ l, KidsA w v l := by
  rcases Deep.open_slice Try.underlying22 h with ⟨hv, _⟩ | ⟨a, len, cap, m, q, D, Pl, hv, _, hl, hm, hmm, hx, hi⟩
  · simp only [List.cons.injEq, and_true] at hv
    exact ⟨[], ⟨none, 0, hv, fun _ => rfl, by simp [cellsI], cellsI_ok _, fun h => absurd h (by simp [cellsI])⟩, none, 0, 0, hv, Nat.le_refl _, by omega⟩
  · simp only [List.cons.injEq, and_true] at hv
    have hlm : len ≤ m := by rw [hmm]; split <;> omega
    unfold maxLen at hm
    have hch : ∀ i, i < len → ∃ o : It, (∀ j, j < 2 → w.cell? ((a.add (i * 2)).add j) = o.cells[j]?) := fun i hil => by
      obtain ⟨cs', h1, h2⟩ := hi i (by omega)
      obtain ⟨o, rfl⟩ := kid_cells h2
      rw [cellsKid10] at h1
      exact ⟨o, (World.cells?_some h1).2.2⟩
    obtain ⟨f, hf⟩ : ∃ f : Nat → It, ∀ i, i < len → (∀ j, j < 2 → w.cell? ((a.add (i * 2)).add j) = (f i).cells[j]?) := by
      refine ⟨fun i => if h : i < len then Classical.choose (hch i h) else ⟨⟨#[]⟩, 0⟩, fun i hil => ?_⟩
      simp only [hil, dif_pos]
      exact Classical.choose_spec (hch i hil)
    refine ⟨(List.range len).map f, ⟨some a, cap, by rw [hv, cellsI_length]; simp, (fun e => by cases e), by rw [cellsI_length]; simp; omega, cellsI_ok _, fun h0 => ?_⟩, some a, len, cap, hv, hl, by omega⟩
    have h0' : 0 < len := by
      rw [cellsI_length] at h0
      simpa using h0
    obtain ⟨b, off, spot⟩ := a
    have hc0 := hf 0 h0' 0 (by omega)
    have hspot : spot = none := by
      have := World.cell?_spot (w := w) (a := ((⟨b, off, spot⟩ : Addr).add (0 * 2)).add 0) hc0
      simpa [Addr.add] using this
    subst hspot
    have hadd : ∀ i j : Nat, ((⟨b, off, none⟩ : Addr).add (i * 2)).add j = ⟨b, off + i * 2 + j, none⟩ := fun i j => by
      rw [Go.WideShapes.add_plain, Go.WideShapes.add_plain]
    refine ⟨b, off, rfl, ?_, fun i y hy j u hju => ?_⟩
    · rw [hadd] at hc0
      exact World.block_lt_of_cell? w _ hc0
    · unfold cellsI at hy
      rw [List.map_map, List.getElem?_map] at hy
      obtain ⟨i', hi', rfl⟩ := Option.map_eq_some_iff.1 hy
      have hil : i < len := by have := (List.getElem?_eq_some_iff.1 hi').1; simpa using this
      rw [List.getElem?_range hil] at hi'
      obtain rfl : i = i' := Option.some.inj hi'
      have hj4 : j < 2 := (List.getElem?_eq_some_iff.1 hju).1
      have h1 := hf i hil j hj4
      rw [hadd] at h1
      show w.cell? ⟨b, off + (i * 2 + j), none⟩ = some u
      rw [show off + (i * 2 + j) = off + i * 2 + j by omega, h1]
      exact hju
end
end Go.Proofs.Ythihjkdankbnjaa.P10
