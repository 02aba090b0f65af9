/-
  A list of ints as an argument. (Args3's part, over any seat; a list that is older than a disk.)
-/
import Derived.Test.YtlgloikhdbmgdaaLs0
import Derived.Deep.Slices
import Derived.OpenShut
import Derived.SliceStrings
import Derived.ChangeSlices
namespace Go.Proofs.Ytlgloikhdbmgdaa.P3
open Go Go.RowKit Go.Lib Go.Maps Go.ChangeMaps Go.MapKept

/-- the value v reads as the ints l -/
def IntsIn (w : World) (v : Value) (l : List Int) : Prop :=
  ∃ a c, v = .slice a l.length c ∧ l.length ≤ 9223372036854775807 ∧ (0 < l.length → ∃ b off, a = some ⟨b, off, none⟩ ∧ b < w.heap.size ∧ ∀ i, i < l.length → w.cell? ⟨b, off + i, none⟩ = some (.int .i64 (l.getD i 0)))
theorem cellsInt : Try.prog.cellsOf 3 = 1 := by kernel_rfl

section
variable {H : Type} {enc : TypeId × Value → H} {w : World} {base : Nat} {sp : Nat → Bool} {held : Bool}

theorem ints_open {n : Nat} {v : Value} {x : DataW H × List MemPlace} (h : DataW.trod enc Try.prog w base sp held n 22 [v] = some x) : ∃ l, IntsIn w v l := by
  rcases Go.ChangeShapes.open_ints Try.underlying22 Try.underlying3 cellsInt h with ⟨hv, _⟩ | ⟨a, len, cap, zs, hv, _, hl, hm, hz, _, hcell, _⟩
  · simp only [List.cons.injEq, and_true] at hv
    exact ⟨[], none, 0, hv, by simp, fun h => absurd h (Nat.lt_irrefl _)⟩
  · simp only [List.cons.injEq, and_true] at hv
    have hlen : len ≤ zs.length := by rw [hz]; split <;> omega
    have hm2 : maxLen = 9223372036854775807 := by decide
    refine ⟨zs.take len, some a, cap, by rw [hv, List.length_take, Nat.min_eq_left hlen], by rw [List.length_take]; omega, fun h0 => ?_⟩
    rw [List.length_take, Nat.min_eq_left hlen] at h0
    obtain ⟨b, off, spot⟩ := a
    have hc0 := hcell 0 (by omega)
    have hspot : spot = none := by
      have := World.cell?_spot (w := w) (a := (⟨b, off, spot⟩ : Addr).add 0) hc0
      simpa [Addr.add] using this
    subst hspot
    refine ⟨b, off, rfl, ?_, fun i hi => ?_⟩
    · rw [Go.WideShapes.add_plain] at hc0
      exact World.block_lt_of_cell? w _ hc0
    · rw [List.length_take] at hi
      have := hcell i (by omega)
      rw [Go.WideShapes.add_plain] at this
      rw [this]
      congr 2
      rw [List.getD_eq_getElem?_getD, List.getD_eq_getElem?_getD, List.getElem?_take_of_lt (by omega)]

end

theorem IntsIn.below {w w' : World} {v : Value} {l : List Int} (h : IntsIn w v l) (hb : Below w.heap.size w w') : IntsIn w' v l := by
  obtain ⟨a, c, h1, h2, h3⟩ := h
  refine ⟨a, c, h1, h2, fun h0 => ?_⟩
  obtain ⟨b, off, h4, h5, h6⟩ := h3 h0
  exact ⟨b, off, h4, Nat.lt_of_lt_of_le h5 hb.size, fun i hi => by rw [hb.cell (p := ⟨b, off + i, none⟩) h5]; exact h6 i hi⟩
theorem IntsIn.lent {w : World} {v : Value} {l : List Int} (h : IntsIn w v l) : P4.IntsR (fun _ => False) w v l := by
  obtain ⟨a, c, rfl, h2, h3⟩ := h
  by_cases h0 : 0 < l.length
  · obtain ⟨b, off, rfl, h5, h6⟩ := h3 h0
    refine .inr ⟨b, off, c, rfl, h5, fun h => h, fun j x hj => ?_⟩
    obtain ⟨h7, h8⟩ := List.getElem?_eq_some_iff.1 hj
    rw [h6 j h7, List.getD_eq_getElem?_getD, hj]
    rfl
  · obtain rfl : l = [] := List.eq_nil_of_length_eq_zero (by omega)
    exact .inl ⟨a, c, rfl, rfl⟩

end Go.Proofs.Ytlgloikhdbmgdaa.P3
