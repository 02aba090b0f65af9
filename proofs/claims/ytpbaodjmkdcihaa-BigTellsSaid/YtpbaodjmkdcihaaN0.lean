/-
  Pages: what they are, in memory; which may be.
-/
import Derived.Test.YtpbaodjmkdcihaaK1
namespace Go.Proofs.Ytpbaodjmkdcihaa.P11
open Go Go.RowKit Go.Lib Go.Proofs.Ytpbaodjmkdcihaa.PK

/-- the kind: a page's four cells -/
def kPages : Kd where
  e := 33
  n := 4
  te := 23
  p := 0
  ok := fun y => ∃ (k i t : Int) (s : ByteArray), y = [.int .i64 k, .int .i64 i, .int .i64 t, .string s]
  mark := fun _ _ => [.int .i64 0, .int .i64 0, .int .i64 0, .string ⟨#[]⟩]
  len := by rintro _ ⟨k, i, t, s, rfl⟩; rfl
  one := by
    rintro _ ⟨k, i, t, s, rfl⟩ u hu
    simp only [List.mem_cons, List.not_mem_nil, or_false] at hu
    rcases hu with rfl | rfl | rfl | rfl <;> rfl
  mok := fun _ _ => ⟨_, _, _, _, rfl⟩
  pos := by decide
theorem infoEPages : (Try.prog.info? 33).map (fun i => (i.zero, i.size, i.bytes)) = some (some (Value.agg #[.int .i64 0, .int .i64 0, .int .i64 0, .string ⟨#[]⟩]), 4, 40) := by kernel_rfl

/-- a page -/
structure Pg where
  k : Int
  id : Int
  tx : Int
  body : ByteArray
def Pg.v (p : Pg) : Value := .agg #[.int .i64 p.k, .int .i64 p.id, .int .i64 p.tx, .string p.body]
def Pg.zero : Pg := ⟨0, 0, 0, ⟨#[]⟩⟩
def Pg.cells (x : Pg) : List Value := [.int .i64 x.k, .int .i64 x.id, .int .i64 x.tx, .string x.body]
/-- may it be? -/
def Pg.ok (p : Pg) : Prop := 1 ≤ p.k ∧ p.k ≤ 5 ∧ 0 ≤ p.id ∧ p.id < 4000 ∧ 0 ≤ p.tx ∧ p.tx ≤ 1099511627776 ∧ p.body.size ≤ 232
instance (p : Pg) : Decidable p.ok := by unfold Pg.ok; infer_instance
def cellsP (l : List Pg) : List (List Value) := l.map Pg.cells
theorem Pg.okc (x : Pg) : kPages.ok x.cells := ⟨_, _, _, _, rfl⟩
theorem cellsP_length (l : List Pg) : (cellsP l).length = l.length := by simp [cellsP]
theorem cellsP_ok (l : List Pg) : Oks kPages (cellsP l) := fun x hx => by
  obtain ⟨y, _, rfl⟩ := List.mem_map.1 hx
  exact y.okc
theorem cellsP_at {l : List Pg} {i : Nat} {x : Pg} (h : l[i]? = some x) : (cellsP l)[i]? = some x.cells := by simp [cellsP, h]
theorem cellsP_snoc (l : List Pg) (c : Pg) : (cellsP (l ++ [c])).flatten = (cellsP l).flatten ++ [.int .i64 c.k, .int .i64 c.id, .int .i64 c.tx, .string c.body] := by
  simp [cellsP, Pg.cells]
/-- a list of pages: what the value v reads as -/
def PgsIn (w : World) (v : Value) (l : List Pg) : Prop := ElemsIn kPages w v (cellsP l)
theorem PgsIn.below {w w' : World} {v : Value} {l : List Pg} (h : PgsIn w v l) (hb : Below w.heap.size w w') : PgsIn w' v l := ElemsIn.below h hb
theorem PgsIn.slice {w : World} {v : Value} {l : List Pg} (h : PgsIn w v l) : ∃ a c, v = .slice a l.length c := by
  obtain ⟨a, c, h, _⟩ := h
  exact ⟨a, c, by rw [cellsP_length] at h; exact h⟩
/-- its i-th page -/
theorem PgsIn.at_ {w : World} {a : Option Addr} {n c : Nat} {l : List Pg} (h : PgsIn w (.slice a n c) l) {i : Nat} {x : Pg} (hi : l[i]? = some x) :
    ∃ b off, a = some ⟨b, off, none⟩ ∧ ∀ w', Below w.heap.size w w' → w'.cell? ⟨b, off + i * 4, none⟩ = some (.int .i64 x.k) ∧ w'.cell? ⟨b, off + i * 4 + 1, none⟩ = some (.int .i64 x.id) ∧ w'.cell? ⟨b, off + i * 4 + 2, none⟩ = some (.int .i64 x.tx) ∧ w'.cell? ⟨b, off + i * 4 + 3, none⟩ = some (.string x.body) := by
  obtain ⟨a', c', e, _, _, _, hc⟩ := h
  simp only [Value.slice.injEq] at e
  obtain ⟨rfl, _, _⟩ := e
  obtain ⟨b, off, rfl, hb, hcc⟩ := hc (by rw [cellsP_length]; have := (List.getElem?_eq_some_iff.1 hi).1; omega)
  refine ⟨b, off, rfl, fun w' hw => ?_⟩
  have k : ∀ (j : Nat) (u : Value), x.cells[j]? = some u → w'.cell? ⟨b, off + (i * 4 + j), none⟩ = some u := fun j u hu => (hw.cell (p := ⟨b, off + (i * 4 + j), none⟩) hb).trans (hcc i _ (cellsP_at hi) j u hu)
  have k1 := k 1 _ rfl
  have k2 := k 2 _ rfl
  have k3 := k 3 _ rfl
  rw [show off + (i * 4 + 1) = off + i * 4 + 1 by omega] at k1
  rw [show off + (i * 4 + 2) = off + i * 4 + 2 by omega] at k2
  rw [show off + (i * 4 + 3) = off + i * 4 + 3 by omega] at k3
  exact ⟨k 0 _ rfl, k1, k2, k3⟩
theorem owns_pgs {w : World} {lo : Nat} {v : Value} {l : List Pg} (h : w.ownsRow lo 33 4 v l.length (cellsP l).flatten) (hl : l.length ≤ 1000000) : PgsIn w v l := by
  refine tRow_elems (κ := kPages) (lo := lo) ?_ (by rw [cellsP_length]; omega) (cellsP_ok l)
  show w.ownsRow lo 33 4 v (cellsP l).length (cellsP l).flatten
  rw [cellsP_length]
  exact h
/-- a row of pages of one's own -/
def OwnP (lo : Nat) (w : World) (v : Value) (l : List Pg) : Prop := w.ownsRow lo 33 4 v l.length (cellsP l).flatten ∧ l.length ≤ 1000000
theorem OwnP.pgs {lo : Nat} {w : World} {v : Value} {l : List Pg} (h : OwnP lo w v l) : PgsIn w v l := owns_pgs h.1 h.2
theorem OwnP.below {lo : Nat} {w w' : World} {v : Value} {l : List Pg} (h : OwnP lo w v l) (k : Below w.heap.size w w') : OwnP lo w' v l := ⟨owns_below h.1 k, h.2⟩
theorem OwnP.nil (lo : Nat) (w : World) : OwnP lo w (.slice none 0 0) [] := ⟨World.ownsRow_nil _ _ _ _, Nat.zero_le _⟩

end Go.Proofs.Ytpbaodjmkdcihaa.P11
