/-
  Items: parts that fit; the reference's CutItems.
-/
import Derived.Test.YtloajjaaidmaiaaV2
import Derived.Test.YtloajjaaidmaiaaKAp
namespace Go.Proofs.Ytloajjaaidmaiaa.P9
open Go Go.RowKit Go.Lib Go.Proofs.Ytloajjaaidmaiaa.PK

/-- n items are the first part: they fit, one more would not -/
def Fills (l : List It) (n : Nat) : Prop :=
  1 ≤ n ∧ n ≤ l.length ∧ (∀ m, 2 ≤ m → m ≤ n → 1 + sumI (l.take m) ≤ 232) ∧ (n < l.length → 232 < 1 + sumI (l.take (n + 1)))
theorem Fills.le {l : List It} {n m : Nat} (h : Fills l n) (k : Fills l m) : n ≤ m := by
  refine Nat.le_of_not_lt fun hlt => ?_
  obtain ⟨h1, h2, h3, h4⟩ := h
  obtain ⟨k1, k2, k3, k4⟩ := k
  have := k4 (by omega)
  have := h3 (m + 1) (by omega) (by omega)
  omega
theorem Fills.one {l : List It} {n m : Nat} (h : Fills l n) (k : Fills l m) : n = m := Nat.le_antisymm (h.le k) (k.le h)
/-- the parts of a list, one behind the other -/
inductive Cuts : List It → List (List It) → Prop
  | nil : Cuts [] []
  | cons {l : List It} {n : Nat} {P : List (List It)} : Fills l n → Cuts (l.drop n) P → Cuts l (l.take n :: P)
theorem Cuts.one {l : List It} {P Q : List (List It)} (h : Cuts l P) (k : Cuts l Q) : P = Q := by
  induction h generalizing Q with
  | nil =>
    cases k with
    | nil => rfl
    | cons f _ => exact absurd f.2.1 (by have := f.1; simp; omega)
  | cons f _ ih =>
    cases k with
    | nil => exact absurd f.2.1 (by have := f.1; simp; omega)
    | cons g k =>
      obtain rfl := f.one g
      rw [ih k]
theorem Cuts.flat {l : List It} {P : List (List It)} (h : Cuts l P) : P.flatten = l := by
  induction h with
  | nil => rfl
  | cons f _ ih => rw [List.flatten_cons, ih, List.take_append_drop]
theorem ItsIn.take {w : World} {a : Option Addr} {c : Nat} {l : List It} (h : ItsIn w (.slice a l.length c) l) {n : Nat} (hn : n ≤ l.length) : ItsIn w (.slice a n c) (l.take n) := by
  obtain ⟨a', c', e, h1, h2, h3, h4⟩ := h
  simp only [Value.slice.injEq] at e
  obtain ⟨rfl, _, rfl⟩ := e
  rw [cellsI_length] at h2 h4
  have hl : (l.take n).length = n := by rw [List.length_take]; omega
  refine ⟨a, c, by rw [cellsI_length, hl], h1, by rw [cellsI_length, hl]; omega, cellsI_ok _, fun h0 => ?_⟩
  rw [cellsI_length, hl] at h0
  obtain ⟨b, off, h5, h6, h7⟩ := h4 (by omega)
  refine ⟨b, off, h5, h6, fun i x hi j u hu => h7 i x ?_ j u hu⟩
  unfold cellsI at hi ⊢
  rw [List.map_take, List.getElem?_take] at hi
  split at hi
  · exact hi
  · cases hi
theorem ItsIn.drop {w : World} {b off c : Nat} {l : List It} (h : ItsIn w (.slice (some ⟨b, off, none⟩) l.length c) l) {n : Nat} (hn : n ≤ l.length) (c' : Nat) : ItsIn w (.slice (some ⟨b, off + n * 3, none⟩) (l.length - n) c') (l.drop n) := by
  obtain ⟨a', c', e, h1, h2, h3, h4⟩ := h
  simp only [Value.slice.injEq] at e
  obtain ⟨rfl, _, rfl⟩ := e
  rw [cellsI_length] at h2 h4
  have hl : (l.drop n).length = l.length - n := by rw [List.length_drop]
  refine ⟨_, _, by rw [cellsI_length, hl], (fun q => by cases q), by rw [cellsI_length, hl]; omega, cellsI_ok _, fun h0 => ?_⟩
  rw [cellsI_length, hl] at h0
  obtain ⟨b', off', h5, h6, h7⟩ := h4 (by omega)
  simp only [Option.some.injEq, Addr.mk.injEq, and_true] at h5
  obtain ⟨rfl, rfl⟩ := h5
  refine ⟨b, off + n * 3, rfl, h6, fun i x hi j u hu => ?_⟩
  have := h7 (n + i) x (by
    unfold cellsI at hi ⊢
    rw [List.map_drop, List.getElem?_drop] at hi
    exact hi) j u hu
  rwa [show off + ((n + i) * kItems.n + j) = off + n * 3 + (i * kItems.n + j) by show off + ((n + i) * 3 + j) = off + n * 3 + (i * 3 + j); omega] at this

theorem sumI_len1 (l : List It) : l.length ≤ sumI l := by
  induction l with
  | nil => exact Nat.le_refl _
  | cons x l ih => rw [sumI_cons, List.length_cons]; unfold It.need; omega
/-- a row of lists -/
def PartsIn (w : World) (lo : Nat) (v : Value) (P : List (List It)) : Prop :=
  ∃ vs : List Value, vs.length = P.length ∧ w.ownsRow lo 22 1 v P.length vs ∧ ∀ (i : Nat) (u : Value) (p : List It), vs[i]? = some u → P[i]? = some p → ItsIn w u p
theorem PartsIn.nil (w : World) (lo : Nat) : PartsIn w lo (.slice none 0 0) [] := ⟨[], rfl, World.ownsRow_nil _ _ _ _, fun i u p h => by simp at h⟩
theorem PartsIn.below {w w' : World} {lo : Nat} {v : Value} {P : List (List It)} (h : PartsIn w lo v P) (k : Below w.heap.size w w') : PartsIn w' lo v P := by
  obtain ⟨vs, h1, h2, h3⟩ := h
  exact ⟨vs, h1, owns_below h2 k, fun i u p hu hp => (h3 i u p hu hp).below k⟩
/-- the same on the way: the lists as they stand in the world in which all began -/
def PartsW (w0 w : World) (lo : Nat) (v : Value) (P : List (List It)) : Prop :=
  ∃ vs : List Value, vs.length = P.length ∧ w.ownsRow lo 22 1 v P.length vs ∧ ∀ (i : Nat) (u : Value) (p : List It), vs[i]? = some u → P[i]? = some p → ItsIn w0 u p
theorem PartsW.nil (w0 w : World) (lo : Nat) : PartsW w0 w lo (.slice none 0 0) [] := ⟨[], rfl, World.ownsRow_nil _ _ _ _, fun i u p h => by simp at h⟩
theorem PartsW.over {w0 w w' : World} {lo : Nat} {v : Value} {P : List (List It)} (h : PartsW w0 w lo v P) (k : Below w.heap.size w w') : PartsW w0 w' lo v P := by
  obtain ⟨vs, h1, h2, h3⟩ := h
  exact ⟨vs, h1, owns_below h2 k, h3⟩
theorem PartsW.parts {w0 w : World} {lo : Nat} {v : Value} {P : List (List It)} (h : PartsW w0 w lo v P) (k : Below w0.heap.size w0 w) : PartsIn w lo v P := by
  obtain ⟨vs, h1, h2, h3⟩ := h
  exact ⟨vs, h1, h2, fun i u p hu hp => (h3 i u p hu hp).below k⟩
theorem snoc_parts {w0 : World} {vs : List Value} {P : List (List It)} (h1 : vs.length = P.length) (h3 : ∀ (i : Nat) (u : Value) (p : List It), vs[i]? = some u → P[i]? = some p → ItsIn w0 u p) {x : Value} {q : List It} (hx : ItsIn w0 x q) :
    ∀ (i : Nat) (u : Value) (p : List It), (vs ++ [x])[i]? = some u → (P ++ [q])[i]? = some p → ItsIn w0 u p := fun i u p hu hp => by
  by_cases hi : i < vs.length
  · rw [List.getElem?_append_left hi] at hu
    rw [List.getElem?_append_left (by omega)] at hp
    exact h3 i u p hu hp
  · rw [List.getElem?_append_right (by omega)] at hu
    rw [List.getElem?_append_right (by omega)] at hp
    by_cases e : i = vs.length
    · rw [show i - vs.length = 0 by omega] at hu
      rw [show i - P.length = 0 by omega] at hp
      obtain rfl : x = u := by simpa using hu
      obtain rfl : q = p := by simpa using hp
      exact hx
    · rw [List.getElem?_eq_none (by simp; omega)] at hu
      cases hu
theorem infoItemss : (Try.prog.info? 22).map (fun i => (i.zero, i.size, i.bytes)) = some (some (.slice none 0 0), 1, 24) := by kernel_rfl

/-- a slice's length -/
def lenV : Value → Nat
  | .slice _ n _ => n
  | _ => 0

end Go.Proofs.Ytloajjaaidmaiaa.P9
