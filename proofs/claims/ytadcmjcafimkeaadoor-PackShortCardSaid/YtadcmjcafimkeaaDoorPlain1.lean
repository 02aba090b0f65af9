/-
  Plain words for package pack: the bytes of a number, the lowest first; what stands in a Put. No program.
-/
import Derived.Test.YtadcmjcafimkeaaDoorRows
import Derived.WalkKit
import Derived.Lib.AppendStr
import Derived.Lib.BufSteps
import Derived.Lib.Hide
namespace Go.Proofs.YtadcmjcafimkeaaDoor.P1
open Go Go.RowKit Go.Lib

/-- a number's lowest n bytes, the lowest first -/
def low (n v : Nat) : List UInt8 := (List.range n).map fun i => UInt8.ofNat (v / 256 ^ i)
theorem low_succ (n v : Nat) : low (n + 1) v = low n v ++ [UInt8.ofNat (v / 256 ^ n)] := by
  simp [low, List.range_succ]
theorem low_length (n v : Nat) : (low n v).length = n := by simp [low]
theorem low_zero (v : Nat) : low 0 v = [] := rfl

/-- bytes as cells -/
def cells (xs : List UInt8) : List Value := xs.map fun c => Value.int .u8 c.toNat
theorem cells_length (xs : List UInt8) : (cells xs).length = xs.length := by simp [cells]
theorem cells_append (a b : List UInt8) : cells (a ++ b) = cells a ++ cells b := by simp [cells]
theorem cells_str (s : ByteArray) : strCells s = cells s.data.toList := rfl

/-- block b is a Put that owns its bytes xs, error bad -/
def PutOwn (w : World) (b : Nat) (xs : List UInt8) (bad : Int) : Prop :=
  ∃ v, w.heap[b]? = some (.cells #[v, .pointer (some ⟨b, 0, none⟩), .int .i64 bad] 29 (0, 0)) ∧ w.ownsRow (b + 1) 5 1 v xs.length (cells xs)
/-- block b is a Put in which nothing was put -/
def PutNew (w : World) (b : Nat) (bad : Int) : Prop :=
  w.heap[b]? = some (.cells #[.slice none 0 0, .pointer none, .int .i64 bad] 29 (0, 0))
/-- block b is a Put: what it holds -/
def PutIs (w : World) (b : Nat) (xs : List UInt8) (bad : Int) : Prop :=
  PutOwn w b xs bad ∨ (PutNew w b bad ∧ xs = [])

theorem lt_of_block {w : World} {b : Nat} {o : Obj} (h : w.heap[b]? = some o) : b < w.heap.size := (Array.getElem?_eq_some_iff.1 h).1
theorem PutOwn.lt {w : World} {b : Nat} {xs : List UInt8} {bad : Int} (h : PutOwn w b xs bad) : b < w.heap.size := by
  obtain ⟨v, hb, _⟩ := h; exact lt_of_block hb
theorem PutIs.lt {w : World} {b : Nat} {xs : List UInt8} {bad : Int} (h : PutIs w b xs bad) : b < w.heap.size := by
  rcases h with h | ⟨h, _⟩
  · exact h.lt
  · exact lt_of_block h

/-- what is owned stays, where nothing that was there has changed -/
theorem owns_below {w w' : World} {base e size : Nat} {v : Value} {n : Nat} {xs : List Value} (h : w.ownsRow base e size v n xs) (hb : Below w.heap.size w w') : w'.ownsRow base e size v n xs :=
  h.kept (row := none) ⟨hb.os, hb.tape, hb.output, hb.size, fun k hk _ => hb.block k hk⟩ (by cases hv : v.ownBlock <;> simp)
theorem PutOwn.below {w w' : World} {b : Nat} {xs : List UInt8} {bad : Int} (h : PutOwn w b xs bad) (hb : Below w.heap.size w w') : PutOwn w' b xs bad := by
  have hl := h.lt
  obtain ⟨v, h1, h2⟩ := h
  exact ⟨v, by rw [hb.block b hl]; exact h1, owns_below h2 hb⟩
theorem PutIs.below {w w' : World} {b : Nat} {xs : List UInt8} {bad : Int} (h : PutIs w b xs bad) (hb : Below w.heap.size w w') : PutIs w' b xs bad := by
  rcases h with h | ⟨h, e⟩
  · exact .inl (h.below hb)
  · exact .inr ⟨by unfold PutNew at *; rw [hb.block b (lt_of_block h)]; exact h, e⟩

/-- only block b, and rows of bytes, may have changed; below b nothing has -/
structure Fr (b : Nat) (w w' : World) : Prop where
  below : Below b w w'
  keeps : ∀ (k : Nat) (c : Array Value) (t : TypeId) (f : Nat × Nat), w.heap[k]? = some (.cells c t f) → t ≠ 5 → k ≠ b → w'.heap[k]? = some (.cells c t f)
theorem Fr.refl (b : Nat) (w : World) : Fr b w w := ⟨Below.refl _ _, fun _ _ _ _ h _ _ => h⟩
theorem Fr.trans {b : Nat} {a w w' : World} (h : Fr b a w) (k : Fr b w w') : Fr b a w' :=
  ⟨h.below.trans k.below, fun i c t f h1 h2 h3 => k.keeps i c t f (h.keeps i c t f h1 h2 h3) h2 h3⟩
theorem Fr.setCell {b : Nat} {a w : World} (h : Fr b a w) (j : Nat) (u : Value) : Fr b a (w.setCell ⟨b, j, none⟩ u) :=
  h.trans ⟨(Below.refl b w).setCell (Nat.le_refl _) u, fun i c t f h1 _ h3 => by rw [Below.heap_setCell _ _ _ _ h3]; exact h1⟩
theorem Fr.alloc {b : Nat} {a w : World} (h : Fr b a w) (hb : b ≤ w.heap.size) (o : Obj) : Fr b a (w.alloc o) :=
  h.trans ⟨(Below.refl b w).alloc hb o, fun i c t f h1 _ _ => by rw [Below.heap_alloc _ _ _ (lt_of_block h1)]; exact h1⟩
theorem Fr.grown {b base n : Nat} {a w w' : World} {v : Value} {xs : List Value} (h : Fr b a w) (hlt : b < w.heap.size) (h2 : w.ownsRow base 5 1 v n xs) (hbase : b < base) (hg : w.grownBy w' v.ownBlock) : Fr b a w' := by
  refine h.trans ⟨(Below.refl b w).grown hg (Nat.le_of_lt hlt) (fun k hk => by have := (h2.lt k hk).1; omega), fun i c t f h1 h3 _ => ?_⟩
  rw [hg.block i (lt_of_block h1) (fun e => ?_)]
  · exact h1
  · rcases h2.2 with ⟨rfl, _⟩ | ⟨g, cap, cur, rfl, _, hgg, _⟩
    · simp [Value.ownBlock] at e
    · simp [Value.ownBlock] at e
      subst e
      rw [hgg] at h1
      simp only [Option.some.injEq, Obj.cells.injEq] at h1
      exact h3 h1.2.1.symm
theorem Fr.drewN {b : Nat} {a w : World} (h : Fr b a w) (n : Nat) : Fr b a (w.drewN n) :=
  ⟨⟨h.below.os, h.below.tape, h.below.output, h.below.size, h.below.block⟩, h.keeps⟩
/-- where nothing that was there has changed -/
theorem Fr.of_below {b : Nat} {a w w' : World} (h : Fr b a w) (hlt : b ≤ w.heap.size) (hb : Below w.heap.size w w') : Fr b a w' :=
  h.trans ⟨hb.mono hlt, fun i c t f h1 _ _ => by rw [hb.block i (lt_of_block h1)]; exact h1⟩

theorem cell_at {w : World} {b : Nat} {c : Array Value} {t : TypeId} (h : w.heap[b]? = some (.cells c t (0, 0))) (j : Nat) : w.cell? ⟨b, j, none⟩ = c[j]? := by
  simp [World.cell?, h]
theorem free_at {w : World} {b : Nat} {c : Array Value} {t : TypeId} (h : w.heap[b]? = some (.cells c t (0, 0))) (j : Nat) : w.frozen? ⟨b, j, none⟩ = false := by
  simp [World.frozen?, h]
theorem set_at {w : World} {b : Nat} {c : Array Value} {t : TypeId} (h : w.heap[b]? = some (.cells c t (0, 0))) (j : Nat) (u : Value) : (w.setCell ⟨b, j, none⟩ u).heap[b]? = some (.cells (c.setIfInBounds j u) t (0, 0)) := by
  simp only [World.setCell, Array.getElem?_modify]; rw [h]; rfl
theorem new_at (w : World) (c : Array Value) (t : TypeId) : (w.alloc (.cells c t)).heap[w.heap.size]? = some (.cells c t (0, 0)) := heap_alloc_new w _

end Go.Proofs.YtadcmjcafimkeaaDoor.P1
