/-
  The book, for any kind of elements: lists of elements (each a list of its cells) as rows, marks, lists that are marked bit by bit.
-/
import Derived.Test.YtpbaodjmkdcihaaK0
namespace Go.Proofs.Ytpbaodjmkdcihaa.PK
open Go Go.RowKit Go.Lib

/-- a kind of elements: its type, how many cells, the slices' type, its place in the book, which elements there are, its marks -/
structure Kd where
  e : TypeId
  n : Nat
  te : TypeId
  p : Nat
  ok : List Value → Prop
  mark : Nat → Nat → List Value
  len : ∀ x, ok x → x.length = n
  one : ∀ x, ok x → ∀ u ∈ x, u.oneCell' = true
  mok : ∀ i k, ok (mark i k)
  pos : 0 < n
theorem flat_len {n : Nat} : ∀ {l : List (List Value)}, (∀ x ∈ l, x.length = n) → l.flatten.length = l.length * n
  | [], _ => by simp
  | x :: l, h => by
    rw [List.flatten_cons, List.length_append, h x List.mem_cons_self, flat_len (fun y hy => h y (List.mem_cons_of_mem _ hy)), List.length_cons, Nat.succ_mul, Nat.add_comm]
theorem flat_at {n : Nat} : ∀ {l : List (List Value)}, (∀ x ∈ l, x.length = n) → ∀ {i j : Nat} {x : List Value} {u : Value}, l[i]? = some x → x[j]? = some u → l.flatten[i * n + j]? = some u
  | [], _, i, j, x, u, hi, _ => by simp at hi
  | y :: l, h, 0, j, x, u, hi, hj => by
    obtain rfl : y = x := by simpa using hi
    rw [List.flatten_cons, Nat.zero_mul, Nat.zero_add, List.getElem?_append_left (List.getElem?_eq_some_iff.1 hj).1]
    exact hj
  | y :: l, h, i + 1, j, x, u, hi, hj => by
    have hy := h y List.mem_cons_self
    have ih := flat_at (fun z hz => h z (List.mem_cons_of_mem _ hz)) (i := i) (j := j) (x := x) (u := u) (by simpa using hi) hj
    rw [List.flatten_cons, List.getElem?_append_right (by rw [hy, Nat.succ_mul]; omega), hy, show (i + 1) * n + j - n = i * n + j by rw [Nat.succ_mul]; omega]
    exact ih
theorem flat_set {n : Nat} : ∀ {l : List (List Value)}, (∀ x ∈ l, x.length = n) → ∀ {i j : Nat} {x : List Value} {u : Value}, l[i]? = some x → j < n → (l.set i (x.set j u)).flatten = l.flatten.set (i * n + j) u
  | [], _, i, j, x, u, hi, _ => by simp at hi
  | y :: l, h, 0, j, x, u, hi, hj => by
    obtain rfl : y = x := by simpa using hi
    have hy := h y List.mem_cons_self
    rw [List.set_cons_zero, List.flatten_cons, List.flatten_cons, Nat.zero_mul, Nat.zero_add, List.set_append_left _ _ (by omega)]
  | y :: l, h, i + 1, j, x, u, hi, hj => by
    have hy := h y List.mem_cons_self
    have ih := flat_set (fun z hz => h z (List.mem_cons_of_mem _ hz)) (i := i) (j := j) (x := x) (u := u) (by simpa using hi) hj
    rw [List.set_cons_succ, List.flatten_cons, List.flatten_cons, ih, List.set_append_right _ _ (by rw [hy, Nat.succ_mul]; omega), hy, show (i + 1) * n + j - n = i * n + j by rw [Nat.succ_mul]; omega]
theorem flat_split {n : Nat} : ∀ {l : List (List Value)}, (∀ x ∈ l, x.length = n) → ∀ {J : Nat} {u : Value}, l.flatten[J]? = some u → ∃ i j x, l[i]? = some x ∧ x[j]? = some u ∧ J = i * n + j
  | [], _, J, u, h => by simp at h
  | y :: l, h, J, u, hJ => by
    have hy := h y List.mem_cons_self
    rw [List.flatten_cons] at hJ
    by_cases hlt : J < y.length
    · rw [List.getElem?_append_left hlt] at hJ
      exact ⟨0, J, y, rfl, hJ, by omega⟩
    · rw [List.getElem?_append_right (by omega)] at hJ
      obtain ⟨i, j, x, h1, h2, h3⟩ := flat_split (fun z hz => h z (List.mem_cons_of_mem _ hz)) hJ
      exact ⟨i + 1, j, x, by simpa using h1, h2, by rw [Nat.succ_mul]; omega⟩
theorem cells_new (w : World) (cs : List Value) (e : TypeId) : ∀ (j : Nat) (u : Value), cs[j]? = some u → (w.alloc (.cells cs.toArray e)).cell? ((⟨w.heap.size, 0, none⟩ : Addr).add j) = some u := fun j u hu => by
  rw [Go.WideShapes.add_plain, Nat.zero_add, cell_at (new_at w _ _), List.getElem?_toArray]
  exact hu
section
variable (κ : Kd)
/-- elements of this kind -/
def Oks (l : List (List Value)) : Prop := ∀ x ∈ l, κ.ok x
variable {κ}
theorem Oks.lens {l : List (List Value)} (h : Oks κ l) : ∀ x ∈ l, x.length = κ.n := fun x hx => κ.len x (h x hx)
theorem Oks.flat {l : List (List Value)} (h : Oks κ l) : l.flatten.length = l.length * κ.n := flat_len h.lens
theorem Oks.one {l : List (List Value)} (h : Oks κ l) : ∀ u ∈ l.flatten, u.oneCell' = true := fun u hu => by
  obtain ⟨x, hx, hu⟩ := List.mem_flatten.1 hu
  exact κ.one x (h x hx) u hu
theorem Oks.nil : Oks κ [] := fun x hx => by cases hx
theorem Oks.app {l m : List (List Value)} (h : Oks κ l) (k : Oks κ m) : Oks κ (l ++ m) := fun x hx => (List.mem_append.1 hx).elim (h x) (k x)
theorem Oks.set {l : List (List Value)} (h : Oks κ l) {i : Nat} {x : List Value} (hx : κ.ok x) : Oks κ (l.set i x) := fun y hy => by
  rcases List.mem_or_eq_of_mem_set hy with hy | rfl
  · exact h y hy
  · exact hx
variable (κ)
/-- a list of elements: what the value v reads as -/
def ElemsIn (w : World) (v : Value) (l : List (List Value)) : Prop :=
  ∃ a c, v = .slice a l.length c ∧ (a = none → c = 0) ∧ l.length ≤ 9223372036854775807 ∧ Oks κ l ∧ (0 < l.length → ∃ b off, a = some ⟨b, off, none⟩ ∧ b < w.heap.size ∧ ∀ (i : Nat) (x : List Value), l[i]? = some x → ∀ (j : Nat) (u : Value), x[j]? = some u → w.cell? ⟨b, off + (i * κ.n + j), none⟩ = some u)
variable {κ}
theorem ElemsIn.nil (w : World) : ElemsIn κ w (.slice none 0 0) [] := ⟨none, 0, rfl, fun _ => rfl, by simp, Oks.nil, fun h => absurd h (Nat.lt_irrefl _)⟩
theorem ElemsIn.below {w w' : World} {v : Value} {l : List (List Value)} (h : ElemsIn κ w v l) (hb : Below w.heap.size w w') : ElemsIn κ w' v l := by
  obtain ⟨a, c, h1, hn, hl, hz, h2⟩ := h
  refine ⟨a, c, h1, hn, hl, hz, fun h0 => ?_⟩
  obtain ⟨b, off, h3, h4, h5⟩ := h2 h0
  exact ⟨b, off, h3, Nat.lt_of_lt_of_le h4 hb.size, fun i x hi j u hj => by rw [hb.cell (p := ⟨b, off + (i * κ.n + j), none⟩) h4]; exact h5 i x hi j u hj⟩
theorem ElemsIn.flat {w : World} {a : Option Addr} {c : Nat} {l : List (List Value)} (h : ElemsIn κ w (.slice a l.length c) l) {A : Addr} (ha : a = some A) {J : Nat} {u : Value} (hu : l.flatten[J]? = some u) : w.cell? (A.add J) = some u := by
  obtain ⟨a', c', e, _, _, hk, hc⟩ := h
  simp only [Value.slice.injEq, true_and] at e
  obtain ⟨rfl, _⟩ := e
  obtain ⟨i, j, x, h1, h2, rfl⟩ := flat_split hk.lens hu
  obtain ⟨b, off, e, _, hcc⟩ := hc (by have := (List.getElem?_eq_some_iff.1 h1).1; omega)
  rw [ha] at e
  obtain rfl : A = ⟨b, off, none⟩ := by simpa using e
  rw [Go.WideShapes.add_plain]
  exact hcc i x h1 j u h2
variable (κ)
/-- a list of elements that is a row -/
def tRow (v : Value) (l : List (List Value)) : Row := ⟨v, κ.e, κ.n, l.length, l.flatten⟩
variable {κ}
theorem tRow_elems {w : World} {lo : Nat} {v : Value} {l : List (List Value)} (h : (tRow κ v l).At w lo) (hl : l.length ≤ 9223372036854775807) (hk : Oks κ l) : ElemsIn κ w v l := by
  rcases h.slice with ⟨e, h1, _⟩ | ⟨g, cap, e, hb, _⟩
  · have e1 : v = .slice none 0 0 := e
    have h2 : l.length = 0 := h1
    obtain rfl := List.eq_nil_of_length_eq_zero h2
    rw [e1]
    exact ElemsIn.nil w
  · have e1 : v = .slice (some ⟨g, 0, none⟩) l.length cap := e
    refine ⟨_, cap, e1, (fun q => by cases q), hl, hk, fun _ => ⟨g, 0, rfl, (h.lt g hb).2, fun i x hi j u hj => ?_⟩⟩
    rw [Nat.zero_add]
    exact h.cell hb (flat_at hk.lens hi hj)
variable (κ)
/-- the marks of list i, m of them, from number f on -/
def marksL (i f m : Nat) : List (List Value) := (List.range m).map fun j => κ.mark i (f + j)
variable {κ}
theorem marksL_length (i f m : Nat) : (marksL κ i f m).length = m := by simp [marksL]
theorem marksL_snoc (i f m : Nat) : marksL κ i f (m + 1) = marksL κ i f m ++ [κ.mark i (f + m)] := by simp [marksL, List.range_succ]
theorem marksL_app (i m q : Nat) : marksL κ i 0 m ++ marksL κ i m q = marksL κ i 0 (m + q) := by
  induction q with
  | zero => simp [marksL]
  | succ q ih => rw [marksL_snoc, ← Nat.add_assoc, marksL_snoc, ← ih, List.append_assoc, Nat.zero_add]
theorem marksL_ok (i f m : Nat) : Oks κ (marksL κ i f m) := fun x hx => by
  unfold marksL at hx
  obtain ⟨j, _, rfl⟩ := List.mem_map.1 hx
  exact κ.mok i _
theorem marksL_at (i m k : Nat) (hk : k < m) : (marksL κ i 0 m)[k]? = some (κ.mark i k) := by simp [marksL, hk]
variable (κ)
/-- the first i lists are marked -/
def putL (ls : List (List (List Value))) (i : Nat) : List (List (List Value)) := ls.mapIdx fun j l => if j < i then marksL κ j 0 l.length else l
variable {κ}
theorem putL_length (ls : List (List (List Value))) (i : Nat) : (putL κ ls i).length = ls.length := by simp [putL]
theorem putL_zero (ls : List (List (List Value))) : putL κ ls 0 = ls := by
  apply List.ext_getElem?
  intro j
  simp [putL]
theorem putL_at {ls : List (List (List Value))} {i : Nat} {l : List (List Value)} (h : ls[i]? = some l) : (putL κ ls i)[i]? = some l := by simp [putL, h]
theorem putL_next {ls : List (List (List Value))} {i : Nat} {l : List (List Value)} (h : ls[i]? = some l) : (putL κ ls i).set i (marksL κ i 0 l.length) = putL κ ls (i + 1) := by
  apply List.ext_getElem?
  intro j
  by_cases hj : j = i
  · subst hj
    have hl : j < (putL κ ls j).length := by rw [putL_length]; exact (List.getElem?_eq_some_iff.1 h).1
    rw [List.getElem?_set_self hl]
    simp [putL, h]
  · rw [List.getElem?_set_ne (Ne.symm hj)]
    unfold putL
    rw [List.getElem?_mapIdx, List.getElem?_mapIdx]
    congr 1
    funext l'
    by_cases h1 : j < i
    · rw [if_pos h1, if_pos (by omega)]
    · rw [if_neg h1, if_neg (by omega)]
theorem putL_all (ls : List (List (List Value))) : putL κ ls ls.length = (ls.map List.length).mapIdx fun j n => marksL κ j 0 n := by
  apply List.ext_getElem?
  intro j
  unfold putL
  rw [List.getElem?_mapIdx, List.getElem?_mapIdx, List.getElem?_map]
  cases h : ls[j]? with
  | none => rfl
  | some l =>
    have hj := (List.getElem?_eq_some_iff.1 h).1
    simp [hj]
variable (κ)
/-- of one list the first k elements are marked -/
def mixL (i : Nat) (l : List (List Value)) (k : Nat) : List (List Value) := (marksL κ i 0 l.length).take k ++ l.drop k
variable {κ}
theorem mixL_length (i : Nat) (l : List (List Value)) (k : Nat) (hk : k ≤ l.length) : (mixL κ i l k).length = l.length := by
  unfold mixL
  rw [List.length_append, List.length_take, marksL_length, List.length_drop]
  omega
theorem mixL_zero (i : Nat) (l : List (List Value)) : mixL κ i l 0 = l := rfl
theorem mixL_all (i : Nat) (l : List (List Value)) : mixL κ i l l.length = marksL κ i 0 l.length := by
  unfold mixL
  rw [List.take_of_length_le (by rw [marksL_length]; exact Nat.le_refl _), List.drop_length, List.append_nil]
theorem mixL_ok {i : Nat} {l : List (List Value)} {k : Nat} (h : Oks κ l) : Oks κ (mixL κ i l k) := fun x hx => by
  unfold mixL at hx
  rcases List.mem_append.1 hx with hx | hx
  · exact marksL_ok i 0 _ x (List.mem_of_mem_take hx)
  · exact h x (List.mem_of_mem_drop hx)
theorem mixL_next (i : Nat) (l : List (List Value)) (k : Nat) (hk : k < l.length) : (mixL κ i l k).set k (κ.mark i k) = mixL κ i l (k + 1) := by
  have hl : (mixL κ i l k).length = l.length := mixL_length i l k (by omega)
  apply List.ext_getElem?
  intro j
  have ht : ((marksL κ i 0 l.length).take k).length = k := by rw [List.length_take, marksL_length]; omega
  have ht' : ((marksL κ i 0 l.length).take (k + 1)).length = k + 1 := by rw [List.length_take, marksL_length]; omega
  by_cases hj : j = k
  · subst hj
    rw [List.getElem?_set_self (by omega)]
    unfold mixL
    rw [List.getElem?_append_left (by omega), List.getElem?_take_of_lt (by omega), marksL_at i _ _ hk]
  · rw [List.getElem?_set_ne (Ne.symm hj)]
    unfold mixL
    rcases Nat.lt_or_gt_of_ne hj with h1 | h1
    · rw [List.getElem?_append_left (by omega), List.getElem?_append_left (by omega), List.getElem?_take_of_lt (by omega), List.getElem?_take_of_lt (by omega)]
    · rw [List.getElem?_append_right (by omega), List.getElem?_append_right (by omega), List.getElem?_drop, List.getElem?_drop, ht, ht']
      congr 1
      omega
end

end Go.Proofs.Ytpbaodjmkdcihaa.PK
