/-
  Lists of items lent: LentItems, StaysItems, SameItems of a list and itself.
-/
import Derived.Test.YtloajjaaidmaiaaV0
import Derived.Test.YtloajjaaidmaiaaKCItems
import Derived.Test.YtloajjaaidmaiaaKAp
namespace Go.Proofs.Ytloajjaaidmaiaa.P9
open Go Go.RowKit Go.Lib Go.Proofs.Ytloajjaaidmaiaa.PK

/-- a list that was lent: room behind it, a mark in the room -/
def LentT (lo : Nat) (w : World) (v : Value) (l : List It) : Prop :=
  ∃ g c, v = .slice (some ⟨g, 0, none⟩) l.length c ∧ l.length + 1 ≤ c ∧ c ≤ 9223372036854775807 ∧ lo ≤ g ∧ g < w.heap.size ∧ (∀ (i : Nat) (x : It), l[i]? = some x → ∀ (j : Nat) (u : Value), x.cells[j]? = some u → w.cell? ⟨g, i * 3 + j, none⟩ = some u) ∧ w.cell? ⟨g, l.length * 3 + 2, none⟩ = some (.int .i64 (-77))
theorem LentT.below {lo : Nat} {w w' : World} {v : Value} {l : List It} (h : LentT lo w v l) (hb : Below w.heap.size w w') : LentT lo w' v l := by
  obtain ⟨g, c, h1, h2, h3, h0, h4, h5, h6⟩ := h
  exact ⟨g, c, h1, h2, h3, h0, Nat.lt_of_lt_of_le h4 hb.size, fun i x hi j u hu => (hb.cell (p := ⟨g, i * 3 + j, none⟩) h4).trans (h5 i x hi j u hu), (hb.cell (p := ⟨g, l.length * 3 + 2, none⟩) h4).trans h6⟩
theorem LentT.its {lo : Nat} {w : World} {v : Value} {l : List It} (h : LentT lo w v l) : ItsIn w v l := by
  obtain ⟨g, c, h1, h2, h3, h0, h4, h5, h6⟩ := h
  refine ⟨_, c, by rw [cellsI_length]; exact h1, (fun e => by cases e), by rw [cellsI_length]; omega, cellsI_ok l, fun _ => ⟨g, 0, rfl, h4, fun i y hi j u hu => ?_⟩⟩
  rw [Nat.zero_add]
  unfold cellsI at hi
  rw [List.getElem?_map] at hi
  obtain ⟨x, hx, rfl⟩ := Option.map_eq_some_iff.1 hi
  exact h5 i x hx j u hu
theorem row_form {w : World} {lo n : Nat} {a : Option Addr} {c : Nat} {l : List It} (h : (tRow kItems (.slice a n c) (cellsI l)).At w lo) : n = l.length ∧ w.ownsRow lo 29 3 (.slice a n c) l.length (cellsI l).flatten := by
  have h' : w.ownsRow lo 29 3 (.slice a n c) l.length (cellsI l).flatten := by
    have : w.ownsRow lo 29 3 (.slice a n c) (cellsI l).length (cellsI l).flatten := h
    rwa [cellsI_length] at this
  refine ⟨?_, h'⟩
  rcases h'.2 with ⟨e, h0⟩ | ⟨g, cap, cur, e, _⟩
  · simp only [Value.slice.injEq] at e
    omega
  · simp only [Value.slice.injEq] at e
    omega
theorem flat_itemI {l : List It} {i : Nat} {x : It} (hi : l[i]? = some x) {j : Nat} {u : Value} (hu : x.cells[j]? = some u) : (cellsI l).flatten[i * 3 + j]? = some u :=
  flat_at (n := 3) (fun y hy => (cellsI_ok l).lens y hy) (cellsI_at hi) hu

theorem same_its (w : World) (u v : Value) (l : List It) (h1 : ItsIn w u l) (h2 : ItsIn w v l) :
    Calls Try.prog 18 #[u, v] w fun e w' => e = .returned (.bool true) ∧ Below w.heap.size w w' := sameItems_same w u v (cellsI l) h1 h2
end Go.Proofs.Ytloajjaaidmaiaa.P9
