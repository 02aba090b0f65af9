/-
  Kids: what they are, in memory; how many bytes they need; which may be; which stand in order.
-/
import Derived.Test.YthihjkdankbnjaaK3Kids
namespace Go.Proofs.Ythihjkdankbnjaa.P10
open Go Go.RowKit Go.Lib Go.Proofs.Ythihjkdankbnjaa.PK

structure It where
  key : ByteArray
  page : Int
def It.cells (x : It) : List Value := [.string x.key, .int .i64 x.page]
def It.v (x : It) : Value := .agg #[.string x.key, .int .i64 x.page]
def It.need (x : It) : Nat := 4 + x.key.size
def It.ok (x : It) : Bool := decide (x.key.size ≤ 32 ∧ 2 ≤ x.page ∧ x.page ≤ 3999)
/-- how many bytes items need -/
def sumI (l : List It) : Nat := (l.map It.need).sum
def cellsI (l : List It) : List (List Value) := l.map It.cells
theorem It.okc (x : It) : kKids.ok x.cells := ⟨_, _, rfl⟩
theorem cellsI_length (l : List It) : (cellsI l).length = l.length := by simp [cellsI]
theorem cellsI_ok (l : List It) : Oks kKids (cellsI l) := fun x hx => by
  obtain ⟨y, _, rfl⟩ := List.mem_map.1 hx
  exact y.okc
theorem cellsI_at {l : List It} {i : Nat} {x : It} (h : l[i]? = some x) : (cellsI l)[i]? = some x.cells := by simp [cellsI, h]
/-- a list of items: what the value v reads as -/
def ItsIn (w : World) (v : Value) (l : List It) : Prop := ElemsIn kKids w v (cellsI l)
theorem ItsIn.below {w w' : World} {v : Value} {l : List It} (h : ItsIn w v l) (hb : Below w.heap.size w w') : ItsIn w' v l := ElemsIn.below h hb
theorem ItsIn.slice {w : World} {v : Value} {l : List It} (h : ItsIn w v l) : ∃ a c, v = .slice a l.length c := by
  obtain ⟨a, c, h, _⟩ := h
  exact ⟨a, c, by rw [cellsI_length] at h; exact h⟩
theorem ItsIn.len {w : World} {v : Value} {l : List It} (h : ItsIn w v l) : l.length ≤ 9223372036854775807 := by
  obtain ⟨a, c, _, _, h, _⟩ := h
  rwa [cellsI_length] at h
/-- its i-th item -/
theorem ItsIn.at_ {w : World} {a : Option Addr} {n c : Nat} {l : List It} (h : ItsIn w (.slice a n c) l) {i : Nat} {x : It} (hi : l[i]? = some x) :
    ∃ b off, a = some ⟨b, off, none⟩ ∧ ∀ w', Below w.heap.size w w' → w'.cell? ⟨b, off + i * 2, none⟩ = some (.string x.key) ∧ w'.cell? ⟨b, off + i * 2 + 1, none⟩ = some (.int .i64 x.page) := by
  obtain ⟨a', c', e, _, _, _, hc⟩ := h
  simp only [Value.slice.injEq] at e
  obtain ⟨rfl, _, _⟩ := e
  obtain ⟨b, off, rfl, hb, hcc⟩ := hc (by rw [cellsI_length]; have := (List.getElem?_eq_some_iff.1 hi).1; omega)
  refine ⟨b, off, rfl, fun w' hw => ?_⟩
  have k : ∀ (j : Nat) (u : Value), x.cells[j]? = some u → w'.cell? ⟨b, off + (i * 2 + j), none⟩ = some u := fun j u hu => (hw.cell (p := ⟨b, off + (i * 2 + j), none⟩) hb).trans (hcc i _ (cellsI_at hi) j u hu)
  refine ⟨k 0 _ rfl, ?_⟩
  have := k 1 _ rfl
  rwa [show off + (i * 2 + 1) = off + i * 2 + 1 by omega] at this
theorem sumI_nil : sumI [] = 0 := rfl
theorem sumI_cons (x : It) (l : List It) : sumI (x :: l) = x.need + sumI l := by simp [sumI]
theorem sumI_app (l m : List It) : sumI (l ++ m) = sumI l + sumI m := by simp [sumI]
theorem sumI_take {l : List It} {i : Nat} {x : It} (h : l[i]? = some x) : sumI (l.take (i + 1)) = sumI (l.take i) + x.need := by
  rw [List.take_add_one, h, sumI_app]
  simp [sumI]
theorem sumI_le {l : List It} (i : Nat) : sumI (l.take i) ≤ sumI l := by
  conv => rhs; rw [← List.take_append_drop i l, sumI_app]
  exact Nat.le_add_right _ _
theorem owns_itsP {w : World} {lo : Nat} {v : Value} {l : List It} (h : w.ownsRow lo 26 2 v l.length (cellsI l).flatten) (hl : l.length ≤ 1000000) : ItsIn w v l := by
  refine tRow_elems (κ := kKids) (lo := lo) ?_ (by rw [cellsI_length]; omega) (cellsI_ok l)
  show w.ownsRow lo 26 2 v (cellsI l).length (cellsI l).flatten
  rw [cellsI_length]
  exact h
/-- a row of items of one's own -/
def OwnI (lo : Nat) (w : World) (v : Value) (l : List It) : Prop := w.ownsRow lo 26 2 v l.length (cellsI l).flatten ∧ l.length ≤ 1000000
theorem OwnI.its {lo : Nat} {w : World} {v : Value} {l : List It} (h : OwnI lo w v l) : ItsIn w v l := owns_itsP h.1 h.2
theorem OwnI.below {lo : Nat} {w w' : World} {v : Value} {l : List It} (h : OwnI lo w v l) (k : Below w.heap.size w w') : OwnI lo w' v l := ⟨owns_below h.1 k, h.2⟩
theorem OwnI.nil (lo : Nat) (w : World) : OwnI lo w (.slice none 0 0) [] := ⟨World.ownsRow_nil _ _ _ _, Nat.zero_le _⟩
theorem OwnI.lo_ {lo lo' : Nat} {w : World} {v : Value} {l : List It} (h : OwnI lo w v l) (k : lo' ≤ lo) : OwnI lo' w v l := ⟨owns_lo h.1 k, h.2⟩

end Go.Proofs.Ythihjkdankbnjaa.P10
