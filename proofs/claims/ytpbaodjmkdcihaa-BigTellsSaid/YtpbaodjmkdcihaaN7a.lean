/-
  A list of ints in memory.
-/
import Derived.Test.YtpbaodjmkdcihaaK1
namespace Go.Proofs.Ytpbaodjmkdcihaa.P11
open Go Go.RowKit Go.Lib Go.Proofs.Ytpbaodjmkdcihaa.PK

/-- the kind: ints -/
def kNs : Kd where
  e := 3
  n := 1
  te := 35
  p := 0
  ok := fun y => ∃ x : Int, y = [.int .i64 x]
  mark := fun _ _ => [.int .i64 0]
  len := by rintro _ ⟨x, rfl⟩; rfl
  one := by
    rintro _ ⟨x, rfl⟩ u hu
    simp only [List.mem_cons, List.not_mem_nil, or_false] at hu
    rcases hu with rfl
    rfl
  mok := fun _ _ => ⟨_, rfl⟩
  pos := by decide
theorem infoENs : (Try.prog.info? 3).map (fun i => (i.zero, i.size, i.bytes)) = some (some (Value.int .i64 0), 1, 8) := by kernel_rfl
def cellsN (l : List Int) : List (List Value) := l.map fun x => [.int .i64 x]
theorem cellsN_length (l : List Int) : (cellsN l).length = l.length := by simp [cellsN]
theorem cellsN_ok (l : List Int) : Oks kNs (cellsN l) := fun x hx => by
  obtain ⟨y, _, rfl⟩ := List.mem_map.1 hx
  exact ⟨y, rfl⟩
theorem cellsN_snoc (l : List Int) (c : Int) : (cellsN (l ++ [c])).flatten = (cellsN l).flatten ++ [.int .i64 c] := by simp [cellsN]
/-- a list of ints: what the value v reads as -/
def NsIn (w : World) (v : Value) (l : List Int) : Prop := ElemsIn kNs w v (cellsN l)
theorem NsIn.below {w w' : World} {v : Value} {l : List Int} (h : NsIn w v l) (hb : Below w.heap.size w w') : NsIn w' v l := ElemsIn.below h hb
theorem NsIn.slice {w : World} {v : Value} {l : List Int} (h : NsIn w v l) : ∃ a c, v = .slice a l.length c := by
  obtain ⟨a, c, h, _⟩ := h
  exact ⟨a, c, by rw [cellsN_length] at h; exact h⟩
theorem NsIn.at_ {w : World} {a : Option Addr} {n c : Nat} {l : List Int} (h : NsIn w (.slice a n c) l) {i : Nat} {x : Int} (hi : l[i]? = some x) :
    ∃ b off, a = some ⟨b, off, none⟩ ∧ ∀ w', Below w.heap.size w w' → w'.cell? ⟨b, off + i, none⟩ = some (.int .i64 x) := by
  obtain ⟨a', c', e, _, _, _, hc⟩ := h
  simp only [Value.slice.injEq] at e
  obtain ⟨rfl, _, _⟩ := e
  obtain ⟨b, off, rfl, hb, hcc⟩ := hc (by rw [cellsN_length]; have := (List.getElem?_eq_some_iff.1 hi).1; omega)
  refine ⟨b, off, rfl, fun w' hw => ?_⟩
  have h1 := (hw.cell (p := ⟨b, off + (i * 1 + 0), none⟩) hb).trans (hcc i [.int .i64 x] (by simp [cellsN, hi]) 0 _ rfl)
  rwa [show off + (i * 1 + 0) = off + i by omega] at h1
/-- a row of ints of one's own -/
def OwnN (lo : Nat) (w : World) (v : Value) (l : List Int) : Prop := w.ownsRow lo 3 1 v l.length (cellsN l).flatten ∧ l.length ≤ 1000000
theorem OwnN.ns {lo : Nat} {w : World} {v : Value} {l : List Int} (h : OwnN lo w v l) : NsIn w v l := by
  refine tRow_elems (κ := kNs) (lo := lo) ?_ (by rw [cellsN_length]; have := h.2; omega) (cellsN_ok l)
  show w.ownsRow lo 3 1 v (cellsN l).length (cellsN l).flatten
  rw [cellsN_length]
  exact h.1
theorem OwnN.nil (lo : Nat) (w : World) : OwnN lo w (.slice none 0 0) [] := ⟨World.ownsRow_nil _ _ _ _, Nat.zero_le _⟩

end Go.Proofs.Ytpbaodjmkdcihaa.P11
