/-
  Package once's queue: Push, in the words of the pins that are held.
-/
import Derived.Test.YtalgbimclagdjaaHeap2
import Derived.Test.YtalgbimclagdjaaPush3
namespace Go.Proofs.Ytalgbimclagdjaa.P3
open Go Go.RowKit Go.Lib Go.Maps Go.ChangeMaps Go.MapKept

/-- the row's cells -/
def flat (ps : PinL) : List Value := ps.flatMap fun p => [.int .i64 p.1, .int .i64 p.2]
theorem flat_snoc (ps : PinL) (x y : Int) : flat (ps ++ [(x, y)]) = flat ps ++ [.int .i64 x, .int .i64 y] := by simp [flat]
theorem flat_length (ps : PinL) : (flat ps).length = ps.length * 2 := by
  induction ps with
  | nil => rfl
  | cons p r ih =>
    show (flat r).length + 2 = _
    rw [ih]
    simp only [List.length_cons]
    omega
theorem flat_at (ps : PinL) : ∀ k, k < ps.length → (flat ps)[k * 2]? = some (.int .i64 (num ps k)) ∧ (flat ps)[k * 2 + 1]? = some (.int .i64 (idn ps k)) := by
  induction ps with
  | nil => intro k h; simp at h
  | cons p r ih =>
    intro k hk
    cases k with
    | zero => exact ⟨rfl, rfl⟩
    | succ k =>
      have := ih k (by simpa using hk)
      have e : flat (p :: r) = .int .i64 p.1 :: .int .i64 p.2 :: flat r := rfl
      rw [e]
      have e1 : (k + 1) * 2 = k * 2 + 1 + 1 := by omega
      rw [e1]
      simp only [List.getElem?_cons_succ]
      exact this

theorem row_owns {w : World} {r cap : Nat} {ps : PinL} (h : RowIs w r cap ps) : w.ownsRow 0 84 2 (.slice (some ⟨r, 0, none⟩) ps.length cap) ps.length (flat ps) := by
  obtain ⟨rc, hr, hs, hl, hmx, hc⟩ := h
  refine ⟨flat_length ps, .inr ⟨r, cap, rc, rfl, Nat.zero_le _, hr, hl, hmx, hs, ?_⟩⟩
  apply List.ext_getElem?
  intro i
  by_cases hi : i < ps.length * 2
  · rw [List.getElem?_take_of_lt hi, Array.getElem?_toList]
    have hk : i / 2 < ps.length := by omega
    have h1 := hc (i / 2) hk
    have h2 := flat_at ps (i / 2) hk
    by_cases e : i % 2 = 0
    · have e1 : i = i / 2 * 2 := by omega
      rw [e1, h1.1, h2.1]
    · have e1 : i = i / 2 * 2 + 1 := by omega
      rw [e1, h1.2, h2.2]
  · rw [List.getElem?_eq_none (by simp; omega), List.getElem?_eq_none (by rw [flat_length]; omega)]
theorem owns_row {w : World} {r cap n : Nat} {ps : PinL} (hn : n = ps.length) (h : w.ownsRow 0 84 2 (.slice (some ⟨r, 0, none⟩) n cap) n (flat ps)) : RowIs w r cap ps := by
  subst hn
  rcases h.2 with ⟨h0, _⟩ | ⟨g, cp, cur, h0, _, hg, hl, hmx, hs, ht⟩
  · simp at h0
  · simp only [Value.slice.injEq, Option.some.injEq, Addr.mk.injEq] at h0
    obtain ⟨⟨rfl, _⟩, _, rfl⟩ := h0
    refine ⟨cur, hg, hs, hl, hmx, fun k hk => ?_⟩
    have h2 := flat_at ps k hk
    rw [← ht] at h2
    rw [List.getElem?_take_of_lt (by omega), List.getElem?_take_of_lt (by omega)] at h2
    simpa using h2

/-- of the blocks that were there those below lo stay, and those that are no pins' rows, no maps, and not b -/
structure FrP (lo b : Nat) (w w' : World) : Prop where
  os : w'.os = w.os
  tape : w'.tape = w.tape
  output : w'.output = w.output
  size : w.heap.size ≤ w'.heap.size
  low : ∀ k, k < w.heap.size → k < lo → w'.heap[k]? = w.heap[k]?
  firm : ∀ (k : Nat) (c : Array Value) (t : TypeId) (f : Nat × Nat), w.heap[k]? = some (.cells c t f) → t ≠ 84 → k ≠ b → w'.heap[k]? = some (.cells c t f)
theorem FrP.refl (lo b : Nat) (w : World) : FrP lo b w w := ⟨rfl, rfl, rfl, Nat.le_refl _, fun _ _ _ => rfl, fun _ _ _ _ h _ _ => h⟩
theorem FrP.trans {lo b : Nat} {a w w' : World} (h : FrP lo b a w) (k : FrP lo b w w') : FrP lo b a w' :=
  ⟨k.os.trans h.os, k.tape.trans h.tape, k.output.trans h.output, Nat.le_trans h.size k.size,
    fun i hi hl => (k.low i (Nat.lt_of_lt_of_le hi h.size) hl).trans (h.low i hi hl), fun i c t f h1 h2 h3 => k.firm i c t f (h.firm i c t f h1 h2 h3) h2 h3⟩
theorem FrP.of {lo b : Nat} {w w' : World} (h : Below w.heap.size w w') : FrP lo b w w' :=
  ⟨h.os, h.tape, h.output, h.size, fun k hk _ => h.block k hk, fun _ _ _ _ h1 _ _ => old_below h1 h⟩
theorem FrP.only {lo b : Nat} {w w' : World} (h : Only b w w') (hb : lo ≤ b) : FrP lo b w w' :=
  ⟨h.os, h.tape, h.output, h.size, fun k hk hl => h.block k hk (by omega), fun _ _ _ _ h1 _ h3 => h.keep h1 h3⟩
theorem FrP.fr {lo b : Nat} {S : Nat → Prop} {w w' : World} (h : Fr S w w') (hl : ∀ k, S k → lo ≤ k) (hf : ∀ k, S k → k = b ∨ (∃ es cl, w.heap[k]? = some (.map es cl)) ∨ ∃ c f, w.heap[k]? = some (.cells c 84 f)) : FrP lo b w w' :=
  ⟨h.os, h.tape, h.output, h.size, fun k hk hlo => h.block k hk (fun hs => by have := hl k hs; omega), fun k c t f h1 h2 h3 => h.keep h1 (fun hs => by
    rcases hf k hs with e | ⟨es, cl, e⟩ | ⟨c', f', e⟩
    · exact h3 e
    · rw [h1] at e; simp at e
    · rw [h1] at e; simp only [Option.some.injEq, Obj.cells.injEq] at e; exact h2 e.2.1)⟩
theorem FrP.below {lo b : Nat} {a w w' : World} (h : Below a.heap.size a w) (k : FrP lo b w w') (hlo : a.heap.size ≤ lo) : Below a.heap.size a w' :=
  h.trans ⟨k.os, k.tape, k.output, k.size, fun i hi => k.low i (Nat.lt_of_lt_of_le hi h.size) (by omega)⟩

/-- block b is Pins that hold ps; ids up to N were given -/
def QAny (lo : Nat) (w : World) (b : Nat) (cb : Array Value) (N : Nat) (ps : PinL) : Prop :=
  (ps = [] ∧ N = 0 ∧ w.heap[b]? = some (.cells cb 61 (0, 0)) ∧ cb[3]? = some (.slice none 0 0) ∧ cb[4]? = some (.map none)) ∨
  ∃ r m cap D, lo ≤ r ∧ lo ≤ m ∧ QIs w b cb r m cap N ps D

end Go.Proofs.Ytalgbimclagdjaa.P3
