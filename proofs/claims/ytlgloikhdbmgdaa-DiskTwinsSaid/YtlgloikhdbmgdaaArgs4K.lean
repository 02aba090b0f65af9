/-
  A list of ints as an argument, with its shape: nil, or at an address. (Args4, part 2.)
-/
import Derived.Test.YtlgloikhdbmgdaaAb3
namespace Go.Proofs.Ytlgloikhdbmgdaa.P3
open Go Go.RowKit Go.Lib Go.Maps Go.ChangeMaps Go.MapKept

/-- the value v reads as the ints l; without ints it is nil, or stands at an address -/
def IntsK (w : World) (v : Value) (l : List Int) : Prop := IntsIn w v l ∧ (v = .slice none 0 0 ∨ ∃ a n c, v = .slice (some a) n c)
section
variable {H : Type} {enc : TypeId × Value → H} {w : World} {base : Nat} {sp : Nat → Bool} {held : Bool}
theorem ints_openK {n : Nat} {v : Value} {x : DataW H × List MemPlace} (h : DataW.trod enc Try.prog w base sp held n 22 [v] = some x) : ∃ l, IntsK w v l := by
  obtain ⟨l, hl⟩ := ints_open h
  refine ⟨l, hl, ?_⟩
  rcases Go.ChangeShapes.open_ints Try.underlying22 Try.underlying3 cellsInt h with ⟨hv, _⟩ | ⟨a, len, cap, zs, hv, _⟩
  · simp only [List.cons.injEq, and_true] at hv
    exact .inl hv
  · simp only [List.cons.injEq, and_true] at hv
    exact .inr ⟨a, len, cap, hv⟩
end
theorem IntsK.below {w w' : World} {v : Value} {l : List Int} (h : IntsK w v l) (hb : Below w.heap.size w w') : IntsK w' v l := ⟨h.1.below hb, h.2⟩
theorem IntsK.keep {w : World} {v : Value} {l : List Int} (h : IntsK w v l) (hl : l.length ≤ 1000) : P4.KeepV w v l := by
  obtain ⟨⟨a, c, rfl, h2, h3⟩, hs⟩ := h
  by_cases h0 : 0 < l.length
  · obtain ⟨b, off, rfl, h5, h6⟩ := h3 h0
    exact .inr (.inr ⟨b, off, c, rfl, h5, by omega, h6⟩)
  · obtain rfl : l = [] := List.eq_nil_of_length_eq_zero (by omega)
    rcases hs with hs | ⟨a', n', c', hs⟩
    · exact .inl ⟨hs, rfl⟩
    · obtain ⟨e1, e2, e3⟩ : a = some a' ∧ ([] : List Int).length = n' ∧ c = c' := by simpa using hs
      subst e1
      exact .inr (.inl ⟨a', c, rfl, rfl⟩)

end Go.Proofs.Ytlgloikhdbmgdaa.P3
