/-
  The statements' helpers on lists of texts: copyTexts, LentTexts, SameTexts, StaysTexts, by contracts; such a list as an argument.
-/
import Derived.Test.YtloajjaaidmaiaaBook0
import Derived.Laws.AppendOwnNone
import Derived.Deep.RegionHeld3
import Derived.OpenShut
import Derived.SliceStrings
namespace Go.Proofs.Ytloajjaaidmaiaa.P0
open Go Go.RowKit Go.Lib

theorem texts_open {H : Type} {enc : TypeId × Value → H} {w : World} {base : Nat} {sp : Nat → Bool} {held : Bool} {n : Nat} {v : Value} {x : DataW H × List MemPlace}
    (h : DataW.trod enc Try.prog w base sp held n 23 [v] = some x) : ∃ l, TextsIn w v l := by
  rcases Go.ChangeShapes.open_strings Try.underlying23 Try.underlying9 (show Try.prog.cellsOf 9 = 1 by kernel_rfl) h with ⟨hv, _⟩ | ⟨a, len, cap, ss, hv, _, hl, hm, hz, _, hcell, hsz⟩
  · simp only [List.cons.injEq, and_true] at hv
    exact ⟨[], hv ▸ TextsIn.nil w⟩
  · simp only [List.cons.injEq, and_true] at hv
    have hlen : len ≤ ss.length := by rw [hz]; split <;> omega
    have hm2 : maxLen = 9223372036854775807 := by decide
    refine ⟨ss.take len, some a, cap, by rw [hv, List.length_take, Nat.min_eq_left hlen], (fun h => by cases h), by rw [List.length_take]; omega, fun i hi => ?_, fun h0 => ?_⟩
    · rw [List.getElem_take]
      have := hsz _ (List.getElem_mem (l := ss) (n := i) (by rw [List.length_take] at hi; omega))
      omega
    · rw [List.length_take, Nat.min_eq_left hlen] at h0
      obtain ⟨b, off, spot⟩ := a
      have hc0 := hcell 0 (by omega)
      have hspot : spot = none := by
        have := World.cell?_spot (w := w) (a := (⟨b, off, spot⟩ : Addr).add 0) hc0
        simpa [Addr.add] using this
      subst hspot
      refine ⟨b, off, rfl, ?_, fun i hi => ?_⟩
      · rw [Go.WideShapes.add_plain] at hc0
        exact World.block_lt_of_cell? w _ hc0
      · rw [List.length_take] at hi
        have := hcell i (by omega)
        rw [Go.WideShapes.add_plain] at this
        rw [this, List.getElem_take]
        simp [show i < ss.length by omega]

theorem infoString : (Try.prog.info? 9).map (fun i => (i.zero, i.size, i.bytes)) = some (some (.string ⟨#[]⟩), 1, 16) := by kernel_rfl

/-- a list that is lent: texts of one's own, a mark behind them -/
def Lent (w : World) (v : Value) (l : List ByteArray) : Prop :=
  ∃ g c, v = .slice (some ⟨g, 0, none⟩) l.length c ∧ l.length + 1 ≤ c ∧ c ≤ 9223372036854775807 ∧ g < w.heap.size ∧ (∀ i (h : i < l.length), w.cell? ⟨g, i, none⟩ = some (.string l[i])) ∧ w.cell? ⟨g, l.length, none⟩ = some (.string ⟨#[109, 97, 114, 107]⟩)
theorem Lent.below {w w' : World} {v : Value} {l : List ByteArray} (h : Lent w v l) (hb : Below w.heap.size w w') : Lent w' v l := by
  obtain ⟨g, c, h1, h2, h3, h4, h5, h6⟩ := h
  exact ⟨g, c, h1, h2, h3, Nat.lt_of_lt_of_le h4 hb.size, fun i hi => (hb.cell (p := ⟨g, i, none⟩) h4).trans (h5 i hi), (hb.cell (p := ⟨g, l.length, none⟩) h4).trans h6⟩
theorem Lent.texts {w : World} {v : Value} {l : List ByteArray} (h : Lent w v l) (hl : l.length ≤ 9223372036854775807) (hz : ∀ i (h : i < l.length), l[i].size ≤ 9223372036854775807) : TextsIn w v l := by
  obtain ⟨g, c, h1, h2, h3, h4, h5, h6⟩ := h
  exact ⟨_, c, h1, (fun h => by cases h), hl, hz, fun _ => ⟨g, 0, rfl, h4, fun i hi => by rw [Nat.zero_add]; exact h5 i hi⟩⟩

theorem lent_row {w : World} {base : Nat} {v : Value} {l : List ByteArray} (h : w.ownsRow base 9 1 v (l.length + 1) (l.map Value.string ++ [.string ⟨#[109, 97, 114, 107]⟩])) :
    ∃ g c, v = .slice (some ⟨g, 0, none⟩) (l.length + 1) c ∧ l.length + 1 ≤ c ∧ c ≤ 9223372036854775807 ∧ g < w.heap.size ∧ (∀ i (h : i < l.length), w.cell? ⟨g, i, none⟩ = some (.string l[i])) ∧ w.cell? ⟨g, l.length, none⟩ = some (.string ⟨#[109, 97, 114, 107]⟩) := by
  have hc := fun g => h.cells (g := g)
  rcases h.2 with ⟨_, e⟩ | ⟨g, cap, cur, rfl, _, hg, hle, hm, _, _⟩
  · omega
  · have hcc := hc g rfl
    refine ⟨g, cap, rfl, hle, hm, lt_of_block hg, fun i hi => ?_, ?_⟩
    · have := hcc i (.string l[i]) (by rw [List.getElem?_append_left (by simpa using hi)]; simp [hi])
      rwa [Go.WideShapes.add_plain, Nat.zero_add] at this
    · have := hcc l.length _ (by rw [List.getElem?_append_right (by simp)]; simp; rfl)
      rwa [Go.WideShapes.add_plain, Nat.zero_add] at this

theorem list_get_ne {l m : List ByteArray} {k : Nat} (h1 : k < l.length) (h2 : k < m.length) (h : l[k] ≠ m[k]) : l ≠ m := by
  intro e; subst e; exact h rfl
end Go.Proofs.Ytloajjaaidmaiaa.P0
