/-
  Lists of children lent: LentKids, StaysKids, SameKids of a list and itself.
-/
import Derived.Test.YthihjkdankbnjaaT0
import Derived.Test.YthihjkdankbnjaaKCKids
import Derived.Test.YthihjkdankbnjaaKAp
namespace Go.Proofs.Ythihjkdankbnjaa.P10
open Go Go.RowKit Go.Lib Go.Proofs.Ythihjkdankbnjaa.PK

/-- a list that was lent: room behind it, a mark in the room -/
def LentT (lo : Nat) (w : World) (v : Value) (l : List It) : Prop :=
  ∃ g c, v = .slice (some ⟨g, 0, none⟩) l.length c ∧ l.length + 1 ≤ c ∧ c ≤ 9223372036854775807 ∧ lo ≤ g ∧ g < w.heap.size ∧ (∀ (i : Nat) (x : It), l[i]? = some x → ∀ (j : Nat) (u : Value), x.cells[j]? = some u → w.cell? ⟨g, i * 2 + j, none⟩ = some u) ∧ w.cell? ⟨g, l.length * 2 + 1, none⟩ = some (.int .i64 (-77))
theorem LentT.below {lo : Nat} {w w' : World} {v : Value} {l : List It} (h : LentT lo w v l) (hb : Below w.heap.size w w') : LentT lo w' v l := by
  obtain ⟨g, c, h1, h2, h3, h0, h4, h5, h6⟩ := h
  exact ⟨g, c, h1, h2, h3, h0, Nat.lt_of_lt_of_le h4 hb.size, fun i x hi j u hu => (hb.cell (p := ⟨g, i * 2 + j, none⟩) h4).trans (h5 i x hi j u hu), (hb.cell (p := ⟨g, l.length * 2 + 1, none⟩) h4).trans h6⟩
theorem LentT.shape {lo : Nat} {w : World} {a : Option Addr} {n c : Nat} {l : List It} (h : LentT lo w (.slice a n c) l) : n = l.length ∧ n ≤ c ∧ c ≤ 9223372036854775807 ∧ ∃ g, a = some ⟨g, 0, none⟩ := by
  obtain ⟨g, c', e, h2, h3, _⟩ := h
  simp only [Value.slice.injEq] at e
  obtain ⟨rfl, rfl, rfl⟩ := e
  exact ⟨rfl, by omega, h3, g, rfl⟩
theorem LentT.its {lo : Nat} {w : World} {v : Value} {l : List It} (h : LentT lo w v l) : ItsIn w v l := by
  obtain ⟨g, c, h1, h2, h3, h0, h4, h5, h6⟩ := h
  refine ⟨_, c, by rw [cellsI_length]; exact h1, (fun e => by cases e), by rw [cellsI_length]; omega, cellsI_ok l, fun _ => ⟨g, 0, rfl, h4, fun i y hi j u hu => ?_⟩⟩
  rw [Nat.zero_add]
  unfold cellsI at hi
  rw [List.getElem?_map] at hi
  obtain ⟨x, hx, rfl⟩ := Option.map_eq_some_iff.1 hi
  exact h5 i x hx j u hu
theorem row_form {w : World} {lo n : Nat} {a : Option Addr} {c : Nat} {l : List It} (h : (tRow kKids (.slice a n c) (cellsI l)).At w lo) : n = l.length ∧ w.ownsRow lo 26 2 (.slice a n c) l.length (cellsI l).flatten := by
  have h' : w.ownsRow lo 26 2 (.slice a n c) l.length (cellsI l).flatten := by
    have : w.ownsRow lo 26 2 (.slice a n c) (cellsI l).length (cellsI l).flatten := h
    rwa [cellsI_length] at this
  refine ⟨?_, h'⟩
  rcases h'.2 with ⟨e, h0⟩ | ⟨g, cap, cur, e, _⟩
  · simp only [Value.slice.injEq] at e
    omega
  · simp only [Value.slice.injEq] at e
    omega
theorem flat_itemI {l : List It} {i : Nat} {x : It} (hi : l[i]? = some x) {j : Nat} {u : Value} (hu : x.cells[j]? = some u) : (cellsI l).flatten[i * 2 + j]? = some u :=
  flat_at (n := 2) (fun y hy => (cellsI_ok l).lens y hy) (cellsI_at hi) hu

/-- a list that is lent, as a row of its own -/
def lentRow (g q : Nat) (l : List It) : Row := ⟨.slice (some ⟨g, 0, none⟩) (l.length + 1) q, 26, 2, l.length + 1, (cellsI l).flatten ++ [.string ⟨#[]⟩, .int .i64 (-77)]⟩
theorem lentT_of_row {w : World} {lo g q : Nat} {l : List It} (h : (lentRow g q l).At w lo) : LentT lo w (.slice (some ⟨g, 0, none⟩) l.length q) l := by
  have h' : w.ownsRow lo 26 2 (.slice (some ⟨g, 0, none⟩) (l.length + 1) q) (l.length + 1) ((cellsI l).flatten ++ [.string ⟨#[]⟩, .int .i64 (-77)]) := h
  have hb : (Value.slice (some ⟨g, 0, none⟩) (l.length + 1) q).ownBlock = some g := rfl
  have hfl : (cellsI l).flatten.length = l.length * 2 := by rw [(cellsI_ok l).flat, cellsI_length]; rfl
  have key : ∀ (i : Nat) (u : Value), ((cellsI l).flatten ++ [.string ⟨#[]⟩, .int .i64 (-77)])[i]? = some u → w.cell? ⟨g, i, none⟩ = some u := fun i u hu => by
    have := h'.cells hb i u hu
    rwa [Go.WideShapes.add_plain, Nat.zero_add] at this
  obtain ⟨h1, h2⟩ := h'.lt g hb
  rcases h'.2 with ⟨e, _⟩ | ⟨g', cap, cur, e, _, _, h4, h5, _⟩
  · cases e
  · simp only [Value.slice.injEq, Option.some.injEq, Addr.mk.injEq] at e
    obtain ⟨_, _, rfl⟩ := e
    unfold maxLen at h5
    refine ⟨g, q, rfl, h4, by omega, h1, h2, fun i x hx j u hu => key _ _ ?_, key _ _ ?_⟩
    · have h9 := flat_itemI hx hu
      rw [List.getElem?_append_left (List.getElem?_eq_some_iff.1 h9).1]
      exact h9
    · rw [List.getElem?_append_right (by rw [hfl]; omega), hfl, show l.length * 2 + 1 - l.length * 2 = 1 by omega]
      rfl
theorem same_its (w : World) (u v : Value) (l : List It) (h1 : ItsIn w u l) (h2 : ItsIn w v l) :
    Calls Try.prog 12 #[u, v] w fun e w' => e = .returned (.bool true) ∧ Below w.heap.size w w' := sameKids_same w u v (cellsI l) h1 h2
end Go.Proofs.Ythihjkdankbnjaa.P10
