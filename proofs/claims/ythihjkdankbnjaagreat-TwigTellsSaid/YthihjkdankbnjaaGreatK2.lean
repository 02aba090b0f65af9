/-
  The book, for any kind of elements: the lists that it keeps, their copies; lists that grow.
-/
import Derived.Test.YthihjkdankbnjaaGreatK1
import Derived.ArgAppend
import Derived.Deep.DeepAppendRoom
import Derived.Deep.MidRow
namespace Go.Proofs.YthihjkdankbnjaaGreat.PK
open Go Go.RowKit Go.Lib

/-- cells set one behind the other -/
def setL : List Value → Nat → List Value → List Value
  | xs, _, [] => xs
  | xs, o, v :: r => setL (xs.set o v) (o + 1) r
theorem setL_eq : ∀ (vs xs : List Value) (o : Nat), o + vs.length ≤ xs.length → setL xs o vs = xs.take o ++ vs ++ xs.drop (o + vs.length)
  | [], xs, o, _ => by simp [setL]
  | v :: r, xs, o, h => by
    have h0 : o < xs.length := by simp at h; omega
    rw [setL, setL_eq r (xs.set o v) (o + 1) (by rw [List.length_set]; simp at h; omega)]
    have e1 : (xs.set o v).take (o + 1) = xs.take o ++ [v] := by
      apply List.ext_getElem?
      intro j
      by_cases hj : j < o
      · rw [List.getElem?_take_of_lt (by omega), List.getElem?_set_ne (by omega), List.getElem?_append_left (by rw [List.length_take]; omega), List.getElem?_take_of_lt hj]
      · by_cases hj2 : j = o
        · subst hj2
          rw [List.getElem?_take_of_lt (by omega), List.getElem?_set_self h0, List.getElem?_append_right (by rw [List.length_take]; omega), List.length_take, show j - min j xs.length = 0 by omega]
          rfl
        · rw [List.getElem?_eq_none (by rw [List.length_take, List.length_set]; omega), List.getElem?_eq_none (by rw [List.length_append, List.length_take]; simp; omega)]
    have e2 : (xs.set o v).drop (o + 1 + r.length) = xs.drop (o + (v :: r).length) := by
      rw [List.drop_set_of_lt (by omega)]
      congr 1
      simp
      omega
    rw [e1, e2]
    simp
theorem flat_put {n : Nat} : ∀ {l : List (List Value)}, (∀ x ∈ l, x.length = n) → ∀ {i : Nat} {y : List Value}, i < l.length → y.length = n → (l.set i y).flatten = setL l.flatten (i * n) y
  | [], _, i, y, hi, _ => by simp at hi
  | x :: l, h, 0, y, hi, hy => by
    have hx := h x List.mem_cons_self
    rw [List.set_cons_zero, setL_eq _ _ _ (by rw [List.flatten_cons, List.length_append]; omega), List.flatten_cons, List.flatten_cons, Nat.zero_mul, List.take_zero, List.nil_append, Nat.zero_add, hy, ← hx, List.drop_left]
  | x :: l, h, i + 1, y, hi, hy => by
    have hx := h x List.mem_cons_self
    have hl := fun z hz => h z (List.mem_cons_of_mem x hz)
    have hi' : i < l.length := by simpa using hi
    have hfl : l.flatten.length = l.length * n := flat_len hl
    have hle : i * n + n ≤ l.length * n := by rw [← Nat.succ_mul]; exact Nat.mul_le_mul_right _ hi'
    rw [List.set_cons_succ, List.flatten_cons, flat_put hl hi' hy, setL_eq _ _ _ (by omega), setL_eq _ _ _ (by rw [List.flatten_cons, List.length_append, Nat.succ_mul]; omega), List.flatten_cons]
    rw [List.take_append, List.drop_append, hx, show (i + 1) * n - n = i * n by rw [Nat.succ_mul]; omega, show x.take ((i + 1) * n) = x from List.take_of_length_le (by rw [hx, Nat.succ_mul]; omega), show x.drop ((i + 1) * n + y.length) = [] from List.drop_of_length_le (by rw [hx, Nat.succ_mul]; omega), show (i + 1) * n + y.length - n = i * n + y.length by rw [Nat.succ_mul]; omega]
    simp
/-- some cells of a row are set -/
theorem Rws.setCells {w0 : World} {l1 l2 : List Row} {g : Nat} : ∀ (vs : List Value) (o : Nat) {x : Row} {w : World}, Rws w0 (l1 ++ x :: l2) w → x.blk = some g → o + vs.length ≤ x.n * x.size → Rws w0 (l1 ++ ⟨x.v, x.e, x.size, x.n, setL x.xs o vs⟩ :: l2) (w.setCells g o vs)
  | [], o, x, w, h, _, _ => h
  | v :: r, o, x, w, h, hb, hl => by
    have h1 := h.set hb o v (by simp at hl; omega)
    have h2 := Rws.setCells (w0 := w0) (l1 := l1) (l2 := l2) (g := g) r (o + 1) (x := ⟨x.v, x.e, x.size, x.n, x.xs.set o v⟩) h1 hb (by simp at hl ⊢; omega)
    exact h2
/-- all cells of a row are there, and may be written -/
theorem Row.At.there_ {w : World} {lo : Nat} {x : Row} (h : x.At w lo) {g : Nat} (hb : x.blk = some g) {o n : Nat} (hl : o + n ≤ x.n * x.size) : w.there g o n := fun j hj => by
  have hlen : x.xs.length = x.n * x.size := h.1
  have hc := h.cell hb (List.getElem?_eq_getElem (show o + j < x.xs.length by omega))
  exact ⟨by rw [hc]; rfl, h.free hb _⟩
section
variable (κ : Kd)
def rowsOf (us : List Value) (ls : List (List (List Value))) : List Row := List.zipWith (tRow κ) us ls
/-- a row of slices -/
def vRow (v : Value) (us : List Value) : Row := ⟨v, κ.te, 1, us.length, us⟩
/-- the rows of one kind: the lists, the copies -/
def kRows (tv cv : Value) (us cs : List Value) (ls ms : List (List (List Value))) : List Row := vRow κ tv us :: vRow κ cv cs :: (rowsOf κ us ls ++ rowsOf κ cs ms)
/-- the book at block b (cells bs) keeps the lists ls of this kind, and copies ms; other rows R stand beside it -/
structure Bk (w0 : World) (R : List Row) (b : Nat) (bs : List Value) (tv cv : Value) (us cs : List Value) (ls ms : List (List (List Value))) (w : World) : Prop where
  rows : Rws w0 (R ++ (bl b bs 36 :: kRows κ tv cv us cs ls ms)) w
  c0 : bs[κ.p]? = some tv
  c1 : bs[κ.p + 1]? = some cv
  ul : us.length = ls.length
  cl : cs.length = ms.length
  lm : ls.length = ms.length
  few : ls.length ≤ 240
  short : ∀ l ∈ ls, l.length ≤ 4000 ∧ Oks κ l
  shortm : ∀ l ∈ ms, l.length ≤ 4000 ∧ Oks κ l
variable {κ}
theorem rowsOf_mem {us : List Value} {ls : List (List (List Value))} {i : Nat} {u : Value} {l : List (List Value)} (hu : us[i]? = some u) (hl : ls[i]? = some l) : tRow κ u l ∈ rowsOf κ us ls := by
  refine List.mem_of_getElem? (i := i) ?_
  unfold rowsOf
  rw [List.getElem?_zipWith, hu, hl]
theorem rowsOf_split {us : List Value} {ls : List (List (List Value))} {i : Nat} {u : Value} {l : List (List Value)} (hu : us[i]? = some u) (hl : ls[i]? = some l) : ∃ A B, rowsOf κ us ls = A ++ tRow κ u l :: B ∧ ∀ l', rowsOf κ us (ls.set i l') = A ++ tRow κ u l' :: B := by
  induction us generalizing ls i with
  | nil => simp at hu
  | cons v us ih =>
    cases ls with
    | nil => simp at hl
    | cons m ls =>
      cases i with
      | zero =>
        simp at hu hl
        subst hu hl
        exact ⟨[], rowsOf κ us ls, rfl, fun l' => rfl⟩
      | succ i =>
        simp only [List.getElem?_cons_succ] at hu hl
        obtain ⟨A, B, h1, h2⟩ := ih hu hl
        refine ⟨tRow κ v m :: A, B, ?_, fun l' => ?_⟩
        · show tRow κ v m :: rowsOf κ us ls = _
          rw [h1]; rfl
        · show tRow κ v m :: rowsOf κ us (ls.set i l') = _
          rw [h2]; rfl
theorem rowsOf_snoc {us : List Value} {ls : List (List (List Value))} (h : us.length = ls.length) (u : Value) (l : List (List Value)) : rowsOf κ (us ++ [u]) (ls ++ [l]) = rowsOf κ us ls ++ [tRow κ u l] := by
  unfold rowsOf
  rw [List.zipWith_append h]
  rfl
variable {w0 w w' : World} {R : List Row} {b : Nat} {bs : List Value} {tv cv : Value} {us cs : List Value} {ls ms : List (List (List Value))}
theorem Bk.cells (h : Bk κ w0 R b bs tv cv us cs ls ms w) : w.heap[b]? = some (.cells bs.toArray 36 (0, 0)) := h.rows.block (by simp)
theorem Bk.cell0 (h : Bk κ w0 R b bs tv cv us cs ls ms w) : w.cell? ⟨b, κ.p, none⟩ = some tv := by rw [cell_at h.cells]; simp [h.c0]
theorem Bk.cell1 (h : Bk κ w0 R b bs tv cv us cs ls ms w) : w.cell? ⟨b, κ.p + 1, none⟩ = some cv := by rw [cell_at h.cells]; simp [h.c1]
theorem Bk.tv_ (h : Bk κ w0 R b bs tv cv us cs ls ms w) : (vRow κ tv us).At w w0.heap.size := h.rows.own _ (by simp [kRows])
theorem Bk.cv_ (h : Bk κ w0 R b bs tv cv us cs ls ms w) : (vRow κ cv cs).At w w0.heap.size := h.rows.own _ (by simp [kRows])
theorem Bk.ur_ (h : Bk κ w0 R b bs tv cv us cs ls ms w) {i : Nat} {u : Value} {l : List (List Value)} (hu : us[i]? = some u) (hl : ls[i]? = some l) : (tRow κ u l).At w w0.heap.size := h.rows.own _ (by have := rowsOf_mem (κ := κ) hu hl; simp [kRows, this])
theorem Bk.u_ (h : Bk κ w0 R b bs tv cv us cs ls ms w) {i : Nat} {u : Value} {l : List (List Value)} (hu : us[i]? = some u) (hl : ls[i]? = some l) : ElemsIn κ w u l := by
  have hs := h.short l (List.mem_of_getElem? hl)
  exact tRow_elems (h.ur_ hu hl) (by omega) hs.2
theorem Bk.c_ (h : Bk κ w0 R b bs tv cv us cs ls ms w) {i : Nat} {u : Value} {l : List (List Value)} (hu : cs[i]? = some u) (hl : ms[i]? = some l) : ElemsIn κ w u l := by
  have hs := h.shortm l (List.mem_of_getElem? hl)
  exact tRow_elems (h.rows.own (tRow κ u l) (by have := rowsOf_mem (κ := κ) hu hl; simp [kRows, this])) (by omega) hs.2
theorem Bk.over (h : Bk κ w0 R b bs tv cv us cs ls ms w) (k : Below w.heap.size w w') : Bk κ w0 R b bs tv cv us cs ls ms w' := ⟨h.rows.over k, h.c0, h.c1, h.ul, h.cl, h.lm, h.few, h.short, h.shortm⟩
theorem Bk.below (h : Bk κ w0 R b bs tv cv us cs ls ms w) : Below w0.heap.size w0 w := h.rows.below
/-- the shapes of the two rows -/
theorem Bk.shapes (h : Bk κ w0 R b bs tv cv us cs ls ms w) : (∃ a c, tv = .slice a us.length c) ∧ ∃ a c, cv = .slice a cs.length c := by
  refine ⟨?_, ?_⟩
  · rcases h.tv_.slice with ⟨e, h1, _⟩ | ⟨g, cap, e, _⟩
    · exact ⟨none, 0, by have := e; rw [show us.length = 0 from h1]; exact this⟩
    · exact ⟨_, cap, e⟩
  · rcases h.cv_.slice with ⟨e, h1, _⟩ | ⟨g, cap, e, _⟩
    · exact ⟨none, 0, by have := e; rw [show cs.length = 0 from h1]; exact this⟩
    · exact ⟨_, cap, e⟩
/-- where it keeps some lists: its two rows -/
theorem Bk.shape (h : Bk κ w0 R b bs tv cv us cs ls ms w) (hne : 0 < ls.length) :
    ∃ g cap g2 cap2, tv = .slice (some ⟨g, 0, none⟩) ls.length cap ∧ cv = .slice (some ⟨g2, 0, none⟩) ls.length cap2 ∧
      ∀ R' ls' ms' W, Bk κ w0 R' b bs tv cv us cs ls' ms' W → (W.cell? ⟨b, κ.p, none⟩ = some tv ∧ W.cell? ⟨b, κ.p + 1, none⟩ = some cv) ∧ (∀ i u, us[i]? = some u → W.cell? ⟨g, i, none⟩ = some u) ∧ ∀ i c, cs[i]? = some c → W.cell? ⟨g2, i, none⟩ = some c := by
  have hu := h.ul
  have hc := h.cl
  have hm := h.lm
  rcases h.tv_.slice with ⟨_, h1, _⟩ | ⟨g, cap, e1, hb1, _⟩
  · exact absurd (show us.length = 0 from h1) (by omega)
  · rcases h.cv_.slice with ⟨_, h1, _⟩ | ⟨g2, cap2, e2, hb2, _⟩
    · exact absurd (show cs.length = 0 from h1) (by omega)
    · exact ⟨g, cap, g2, cap2, by rw [← hu]; exact e1, by rw [hm, ← hc]; exact e2, fun R' ls' ms' W hW => ⟨⟨hW.cell0, hW.cell1⟩, fun i u h1 => hW.tv_.cell hb1 h1, fun i c h2 => hW.cv_.cell hb2 h2⟩⟩
/-- a row that was made behind -/
theorem Bk.with_ (h : Bk κ w0 R b bs tv cv us cs ls ms w) (k : Below w.heap.size w w') {x : Row} (hx : x.At w' w.heap.size) : Bk κ w0 (x :: R) b bs tv cv us cs ls ms w' := ⟨h.rows.add k hx, h.c0, h.c1, h.ul, h.cl, h.lm, h.few, h.short, h.shortm⟩
theorem Bk.less {x : Row} (h : Bk κ w0 (x :: R) b bs tv cv us cs ls ms w) : Bk κ w0 R b bs tv cv us cs ls ms w := ⟨h.rows.sub (List.sublist_cons_self ..), h.c0, h.c1, h.ul, h.cl, h.lm, h.few, h.short, h.shortm⟩
/-- an element of a list is set -/
theorem Bk.putE (h : Bk κ w0 R b bs tv cv us cs ls ms w) {i : Nat} {u : Value} {l : List (List Value)} (hu : us[i]? = some u) (hl : ls[i]? = some l) {g : Nat} (hg : u.ownBlock = some g) {k : Nat} (hk : k < l.length) {y : List Value} (hy : κ.ok y) :
    Bk κ w0 R b bs tv cv us cs (ls.set i (l.set k y)) ms (w.setCells g (k * κ.n) y) := by
  obtain ⟨A, B, h1, h2⟩ := rowsOf_split (κ := κ) hu hl
  have hr := h.rows
  have hsh := h.short l (List.mem_of_getElem? hl)
  have hyl := κ.len y hy
  refine ⟨?_, h.c0, h.c1, by rw [List.length_set]; exact h.ul, h.cl, by rw [List.length_set]; exact h.lm, by rw [List.length_set]; exact h.few, ?_, h.shortm⟩
  · unfold kRows at hr ⊢
    rw [h1] at hr
    rw [h2]
    have e1 : ∀ Z : Row, R ++ (bl b bs 36 :: vRow κ tv us :: vRow κ cv cs :: (A ++ Z :: B ++ rowsOf κ cs ms)) = (R ++ (bl b bs 36 :: vRow κ tv us :: vRow κ cv cs :: A)) ++ Z :: (B ++ rowsOf κ cs ms) := fun Z => by simp
    rw [e1] at hr ⊢
    have hjj : k * κ.n + y.length ≤ l.length * κ.n := by
      have : (k + 1) * κ.n ≤ l.length * κ.n := Nat.mul_le_mul_right _ hk
      rw [Nat.succ_mul] at this
      omega
    have hq := hr.setCells y (k * κ.n) (show (tRow κ u l).blk = some g from hg) hjj
    have e2 : (⟨(tRow κ u l).v, (tRow κ u l).e, (tRow κ u l).size, (tRow κ u l).n, setL (tRow κ u l).xs (k * κ.n) y⟩ : Row) = tRow κ u (l.set k y) := by
      unfold tRow
      rw [List.length_set, flat_put hsh.2.lens hk hyl]
    rw [e2] at hq
    exact hq
  · intro m hm
    rcases List.mem_or_eq_of_mem_set hm with hm | rfl
    · exact h.short m hm
    · exact ⟨by rw [List.length_set]; exact hsh.1, hsh.2.set hy⟩
/-- how an element is stored -/
theorem storeE {P : Program} {lo : Nat} {u : Value} {l : List (List Value)} (h : (tRow κ u l).At w lo) {g : Nat} (hg : u.ownBlock = some g) {k : Nat} (hk : k < l.length) (ty : TypeId) (cells : Array Value) (hy : κ.ok cells.toList) (hi : (P.info? ty).map (·.size) = some cells.size) :
    (Instr.storeAt ty (.pointer (some ⟨g, k * κ.n, none⟩)) (.agg cells)).run P w = .ok () (w.setCells g (k * κ.n) cells.toList) := by
  have hyl := κ.len _ hy
  rw [Array.length_toList] at hyl
  refine run_storeAt_mid w g (k * κ.n) ty cells (h.there_ (show (tRow κ u l).blk = some g from hg) ?_) hi (all_oneCell_toArray (κ.one _ hy))
  show k * κ.n + cells.size ≤ l.length * κ.n
  rw [hyl]
  have : (k + 1) * κ.n ≤ l.length * κ.n := Nat.mul_le_mul_right _ hk
  rw [Nat.succ_mul] at this
  omega
/-- the first row has grown by a list -/
theorem bk_grow1 {wA w3 : World} {X Z : List Row} {tv' : Value} {u : Value} (h : Rws w0 (X ++ (bl b bs 36 :: vRow κ tv us :: Z)) w) (hb : Below w.heap.size w wA)
    (hv : w3.ownsRow w0.heap.size κ.te 1 tv' (us.length + 1) (us ++ [u])) (hg : wA.grownBy w3 tv.ownBlock) (hat : tv'.ownBlock = tv.ownBlock ∨ ∀ g, tv'.ownBlock = some g → wA.heap.size ≤ g) :
    Rws w0 (X ++ (bl b bs 36 :: vRow κ tv' (us ++ [u]) :: Z)) w3 := by
  have h1 := h.over hb
  have e1 : X ++ (bl b bs 36 :: vRow κ tv us :: Z) = (X ++ [bl b bs 36]) ++ vRow κ tv us :: Z := by simp
  rw [e1] at h1
  have h2 := h1.grown hg hv hat
  have e2 : (⟨tv', (vRow κ tv us).e, (vRow κ tv us).size, us.length + 1, us ++ [u]⟩ : Row) = vRow κ tv' (us ++ [u]) := by unfold vRow; simp
  rw [e2] at h2
  have e3 : (X ++ [bl b bs 36]) ++ vRow κ tv' (us ++ [u]) :: Z = X ++ bl b bs 36 :: (vRow κ tv' (us ++ [u]) :: Z) := by simp
  rw [e3] at h2
  exact h2
/-- a cell of the book is set -/
theorem bk_store {X Z : List Row} (h : Rws w0 (X ++ (bl b bs 36 :: Z)) w) (j : Nat) (u : Value) (hj : j < bs.length) :
    Rws w0 (X ++ (bl b (bs.set j u) 36 :: Z)) (w.setCell ⟨b, j, none⟩ u) := by
  have h3 := h.set (g := b) rfl j u (by show j < bs.length * 1; omega)
  rw [bl_set] at h3
  exact h3
/-- the second row has grown -/
theorem bk_grow2 {wA w3 : World} {X Y Z : List Row} {cv' : Value} {c : Value} (h : Rws w0 (X ++ (bl b bs 36 :: (Y ++ vRow κ cv cs :: Z))) w) (hb : Below w.heap.size w wA)
    (hv : w3.ownsRow w0.heap.size κ.te 1 cv' (cs.length + 1) (cs ++ [c])) (hg : wA.grownBy w3 cv.ownBlock) (hat : cv'.ownBlock = cv.ownBlock ∨ ∀ g, cv'.ownBlock = some g → wA.heap.size ≤ g) :
    Rws w0 (X ++ (bl b bs 36 :: (Y ++ vRow κ cv' (cs ++ [c]) :: Z))) w3 := by
  have h1 := h.over hb
  have e1 : X ++ (bl b bs 36 :: (Y ++ vRow κ cv cs :: Z)) = (X ++ bl b bs 36 :: Y) ++ vRow κ cv cs :: Z := by simp
  rw [e1] at h1
  have h2 := h1.grown hg hv hat
  have e2 : (⟨cv', (vRow κ cv cs).e, (vRow κ cv cs).size, cs.length + 1, cs ++ [c]⟩ : Row) = vRow κ cv' (cs ++ [c]) := by unfold vRow; simp
  rw [e2] at h2
  have e3 : (X ++ bl b bs 36 :: Y) ++ vRow κ cv' (cs ++ [c]) :: Z = X ++ bl b bs 36 :: (Y ++ vRow κ cv' (cs ++ [c]) :: Z) := by simp
  rw [e3] at h2
  exact h2
theorem bk_done {P Q : List Row} {cR uR B t c' : Row} (h : Rws w0 ((cR :: uR :: R) ++ (B :: ([t] ++ c' :: (P ++ Q)))) w) : Rws w0 (R ++ (B :: t :: c' :: ((P ++ [uR]) ++ (Q ++ [cR])))) w := by
  refine h.perm ?_
  have e1 : (cR :: uR :: R) ++ (B :: ([t] ++ c' :: (P ++ Q))) = cR :: (uR :: ((R ++ B :: t :: c' :: P) ++ Q)) := by simp
  have e2 : R ++ (B :: t :: c' :: ((P ++ [uR]) ++ (Q ++ [cR]))) = ((R ++ B :: t :: c' :: P) ++ uR :: Q) ++ [cR] := by simp
  rw [e1, e2]
  exact (List.Perm.cons _ List.perm_middle.symm).trans (List.perm_append_comm (l₁ := [cR]))
end

section
variable (κ : Kd)
/-- a list of marks in a row -/
def mRow (i : Nat) (v : Value) (m : Nat) : Row := tRow κ v (marksL κ i 0 m)
/-- a list of marks as it has grown so far; the one that it was stands there still -/
def Gr (w0 : World) (i : Nat) (u : Value) (n0 : Nat) (Rest : List Row) (cur : Value) (m : Nat) (w : World) : Prop :=
  ∃ E, Rws w0 (mRow κ i cur m :: (E ++ Rest)) w ∧ n0 ≤ m ∧ ∃ vr mr, mRow κ i vr mr ∈ mRow κ i cur m :: E ∧ n0 ≤ mr ∧ vr.ownBlock = u.ownBlock
variable {κ}
theorem mRow_eq (i : Nat) (v : Value) (m : Nat) : mRow κ i v m = ⟨v, κ.e, κ.n, m, (marksL κ i 0 m).flatten⟩ := by unfold mRow tRow; rw [marksL_length]
variable {w0 w w' : World} {i : Nat} {u : Value} {n0 : Nat} {Rest : List Row} {cur : Value} {m : Nat}
theorem Gr.start (h : Rws w0 (mRow κ i u n0 :: Rest) w) : Gr κ w0 i u n0 Rest u n0 w :=
  ⟨[], h, Nat.le_refl _, u, n0, by simp, Nat.le_refl _, rfl⟩
theorem Gr.over (h : Gr κ w0 i u n0 Rest cur m w) (k : Below w.heap.size w w') : Gr κ w0 i u n0 Rest cur m w' := by
  obtain ⟨E, h1, h2⟩ := h
  exact ⟨E, h1.over k, h2⟩
theorem Gr.row (h : Gr κ w0 i u n0 Rest cur m w) : (mRow κ i cur m).At w w0.heap.size := by
  obtain ⟨E, h1, _⟩ := h
  exact h1.own _ (by simp)
theorem marks_flat (i m p : Nat) : (marksL κ i 0 m).flatten ++ (marksL κ i m p).flatten = (marksL κ i 0 (m + p)).flatten := by rw [← List.flatten_append, marksL_app]
/-- there was room -/
theorem Gr.room {g cap p : Nat} (h : Gr κ w0 i u n0 Rest (.slice (some ⟨g, 0, none⟩) m cap) m w)
    (hv : w'.ownsRow w0.heap.size κ.e κ.n (.slice (some ⟨g, 0, none⟩) (m + p) cap) (m + p) ((marksL κ i 0 m).flatten ++ (marksL κ i m p).flatten)) (hg : w.grownBy w' (some g)) :
    Gr κ w0 i u n0 Rest (.slice (some ⟨g, 0, none⟩) (m + p) cap) (m + p) w' := by
  obtain ⟨E, h1, h2, vr, mr, h3, h4, h5⟩ := h
  rw [marks_flat] at hv
  have hq := Rws.grown (l1 := []) (x := mRow κ i (.slice (some ⟨g, 0, none⟩) m cap) m) h1 (v' := .slice (some ⟨g, 0, none⟩) (m + p) cap) (n' := m + p) (xs' := (marksL κ i 0 (m + p)).flatten) hg hv (.inl rfl)
  have e2 : (⟨.slice (some ⟨g, 0, none⟩) (m + p) cap, (mRow κ i (.slice (some ⟨g, 0, none⟩) m cap) m).e, (mRow κ i (.slice (some ⟨g, 0, none⟩) m cap) m).size, m + p, (marksL κ i 0 (m + p)).flatten⟩ : Row) = mRow κ i (.slice (some ⟨g, 0, none⟩) (m + p) cap) (m + p) := by rw [mRow_eq i (.slice (some ⟨g, 0, none⟩) (m + p) cap) (m + p)]; rfl
  rw [e2] at hq
  refine ⟨E, hq, by omega, ?_⟩
  rcases List.mem_cons.1 h3 with e | h3
  · refine ⟨.slice (some ⟨g, 0, none⟩) (m + p) cap, m + p, by simp, by omega, ?_⟩
    have := congrArg Row.blk e
    rw [← h5]
    exact this.symm
  · exact ⟨vr, mr, List.mem_cons_of_mem _ h3, h4, h5⟩
/-- it was made anew -/
theorem Gr.fresh {p : Nat} (h : Gr κ w0 i u n0 Rest cur m w) {v' : Value}
    (hv : w'.ownsRow w.heap.size κ.e κ.n v' (m + p) ((marksL κ i 0 m).flatten ++ (marksL κ i m p).flatten)) (hg : w.grownBy w' none) :
    Gr κ w0 i u n0 Rest v' (m + p) w' := by
  obtain ⟨E, h1, h2, vr, mr, h3, h4, h5⟩ := h
  rw [marks_flat] at hv
  have hb : Below w.heap.size w w' := (Below.refl _ w).grown hg (Nat.le_refl _) (fun k hk => by cases hk)
  have hq := h1.add hb (x := mRow κ i v' (m + p)) (by rw [mRow_eq]; exact hv)
  exact ⟨mRow κ i cur m :: E, hq, by omega, vr, mr, List.mem_cons_of_mem _ h3, h4, h5⟩
theorem Gr.cur_ (h : Gr κ w0 i u n0 Rest cur m w) : (cur = .slice none 0 0 ∧ m = 0) ∨ ∃ g cap, cur = .slice (some ⟨g, 0, none⟩) m cap ∧ m ≤ cap := by
  have hr := h.row
  rw [mRow_eq] at hr
  rcases hr.slice with ⟨e, h1, _⟩ | ⟨g, cap, e, _, h2, _⟩
  · exact .inl ⟨e, h1⟩
  · exact .inr ⟨g, cap, e, h2⟩
theorem Gr.below (h : Gr κ w0 i u n0 Rest cur m w) : Below w0.heap.size w0 w := by
  obtain ⟨E, h1, _⟩ := h
  exact h1.below
/-- a row that stands beside -/
theorem Gr.side (h : Gr κ w0 i u n0 Rest cur m w) {x : Row} (hx : x ∈ Rest) : x.At w w0.heap.size := by
  obtain ⟨E, h1, _⟩ := h
  exact h1.own x (by simp [hx])
/-- the list that it was, as elements -/
theorem view {W : World} {lo : Nat} {mr : Nat} {vr : Value} (h : (mRow κ i vr mr).At W lo) (hn : n0 ≤ mr) {ao : Option Addr} {cp : Nat} (hb : vr.ownBlock = (Value.slice ao n0 cp).ownBlock) (h0 : ao = none → cp = 0) (h1 : 0 < n0 → ∃ g, ao = some ⟨g, 0, none⟩) (hs : n0 ≤ 1000000) : ElemsIn κ W (.slice ao n0 cp) (marksL κ i 0 n0) := by
  refine ⟨ao, cp, by rw [marksL_length], h0, by rw [marksL_length]; omega, marksL_ok _ _ _, fun hp => ?_⟩
  rw [marksL_length] at hp
  obtain ⟨g, rfl⟩ := h1 hp
  have hbk : (mRow κ i vr mr).blk = some g := hb
  refine ⟨g, 0, rfl, (h.lt g hbk).2, fun k x hk j s hj => ?_⟩
  rw [Nat.zero_add]
  refine h.cell hbk ?_
  rw [mRow_eq]
  refine flat_at (marksL_ok i 0 mr).lens ?_ hj
  have hkn : k < n0 := by have := (List.getElem?_eq_some_iff.1 hk).1; rw [marksL_length] at this; exact this
  rw [marksL_at i n0 k hkn] at hk
  rw [marksL_at i mr k (by omega)]
  exact hk
variable (κ)
/-- lists that were grown: each reads as marks, and so does the one that it was -/
def Grown (w0 : World) (D : List Row) (us gs : List Value) (ns : List Nat) (i : Nat) : Prop :=
  gs.length = i ∧ ∀ j, j < i → ∃ gj uj nj, gs[j]? = some gj ∧ us[j]? = some uj ∧ ns[j]? = some nj ∧ ∀ W, (∀ x ∈ D, x.At W w0.heap.size) → ElemsIn κ W gj (marksL κ j 0 (nj + 72)) ∧ ElemsIn κ W uj (marksL κ j 0 nj)
/-- the rows that stand while the i-th list is grown; X: all others, the book among them -/
def restR (ov tv : Value) (gs us : List Value) (X : List Row) (D : List Row) (ns : List Nat) (i : Nat) : List Row :=
  vRow κ ov gs :: vRow κ tv us :: (D ++ rowsOf κ (us.drop i) ((ns.mapIdx fun j n => marksL κ j 0 n).drop i) ++ X)
variable {κ}
/-- what the slices of the lists look like -/
def Looks (us : List Value) (ns : List Nat) : Prop := ∀ (i : Nat) (u : Value) (n : Nat), us[i]? = some u → ns[i]? = some n → n ≤ 4000 ∧ ∃ (ao : Option Addr) (cp : Nat), u = .slice ao n cp ∧ (ao = none → cp = 0) ∧ (0 < n → ∃ g, ao = some ⟨g, 0, none⟩)
variable {ov ov' tv : Value} {gs us : List Value} {X D : List Row} {ns : List Nat} {n : Nat}
theorem rows_next (hu : us[i]? = some u) (hn : ns[i]? = some n) :
    rowsOf κ (us.drop i) ((ns.mapIdx fun j n => marksL κ j 0 n).drop i) = mRow κ i u n :: rowsOf κ (us.drop (i + 1)) ((ns.mapIdx fun j n => marksL κ j 0 n).drop (i + 1)) := by
  have e1 : us.drop i = u :: us.drop (i + 1) := by
    rw [List.drop_eq_getElem_cons (List.getElem?_eq_some_iff.1 hu).1, (List.getElem?_eq_some_iff.1 hu).2]
  have h2 : (ns.mapIdx fun j n => marksL κ j 0 n)[i]? = some (marksL κ i 0 n) := by simp [hn]
  have e2 : (ns.mapIdx fun j n => marksL κ j 0 n).drop i = marksL κ i 0 n :: (ns.mapIdx fun j n => marksL κ j 0 n).drop (i + 1) := by
    rw [List.drop_eq_getElem_cons (List.getElem?_eq_some_iff.1 h2).1, (List.getElem?_eq_some_iff.1 h2).2]
  rw [e1, e2]
  rfl
/-- the i-th list is taken out of the rows -/
theorem take_out (hu : us[i]? = some u) (hn : ns[i]? = some n) (h : Rws w0 (restR κ ov tv gs us X D ns i) w) :
    Rws w0 (mRow κ i u n :: restR κ ov tv gs us X D ns (i + 1)) w := by
  unfold restR at *
  rw [rows_next hu hn] at h
  refine h.perm ?_
  have : (vRow κ ov gs :: vRow κ tv us :: (D ++ mRow κ i u n :: rowsOf κ (us.drop (i + 1)) ((ns.mapIdx fun j n => marksL κ j 0 n).drop (i + 1)) ++ X)) = (vRow κ ov gs :: vRow κ tv us :: D) ++ mRow κ i u n :: (rowsOf κ (us.drop (i + 1)) ((ns.mapIdx fun j n => marksL κ j 0 n).drop (i + 1)) ++ X) := by simp
  rw [this]
  refine List.perm_middle.trans ?_
  simp
/-- behind its growth it stands among those that are done -/
theorem put_in {v : Value} {m : Nat} (hu : us[i]? = some u) (hn : ns[i]? = some n) (hl : Looks us ns) (hG : Grown κ w0 D us gs ns i)
    (h : Gr κ w0 i u n (restR κ ov tv gs us X D ns (i + 1)) v m w) (hm : m = n + 72)
    (hov : ∀ E, Rws w0 (mRow κ i v m :: (E ++ restR κ ov tv gs us X D ns (i + 1))) w → Rws w0 (mRow κ i v m :: (E ++ restR κ ov' tv (gs ++ [v]) us X D ns (i + 1))) w') :
    ∃ D', Rws w0 (restR κ ov' tv (gs ++ [v]) us X D' ns (i + 1)) w' ∧ Grown κ w0 D' us (gs ++ [v]) ns (i + 1) := by
  subst hm
  obtain ⟨E, h1, h2, vr, mr, h3, h4, h5⟩ := h
  have hq := hov E h1
  refine ⟨D ++ mRow κ i v (n + 72) :: E, ?_, ?_, ?_⟩
  · unfold restR at *
    refine hq.perm ?_
    generalize rowsOf κ (us.drop (i + 1)) ((ns.mapIdx fun j n => marksL κ j 0 n).drop (i + 1)) = Y
    have : (vRow κ ov' (gs ++ [v]) :: vRow κ tv us :: (D ++ mRow κ i v (n + 72) :: E ++ Y ++ X)) = (vRow κ ov' (gs ++ [v]) :: vRow κ tv us :: D) ++ mRow κ i v (n + 72) :: (E ++ (Y ++ X)) := by simp
    rw [this]
    refine List.Perm.trans ?_ List.perm_middle.symm
    refine List.Perm.cons _ ?_
    rw [show (vRow κ ov' (gs ++ [v]) :: vRow κ tv us :: D) ++ (E ++ (Y ++ X)) = ((vRow κ ov' (gs ++ [v]) :: vRow κ tv us :: D) ++ E) ++ (Y ++ X) by simp,
      show E ++ (vRow κ ov' (gs ++ [v]) :: vRow κ tv us :: (D ++ Y ++ X)) = (E ++ (vRow κ ov' (gs ++ [v]) :: vRow κ tv us :: D)) ++ (Y ++ X) by simp]
    exact List.Perm.append_right _ List.perm_append_comm
  · rw [List.length_append, hG.1]; rfl
  · intro j hj
    by_cases hji : j = i
    · subst hji
      obtain ⟨hn1, ao, cp, rfl, k0, k1⟩ := hl j u n hu hn
      refine ⟨v, _, n, by rw [List.getElem?_append_right (by rw [hG.1]; exact Nat.le_refl _), hG.1, Nat.sub_self]; rfl, hu, hn, fun W hW => ⟨?_, ?_⟩⟩
      · exact tRow_elems (hW (mRow κ j v (n + 72)) (by simp)) (by rw [marksL_length]; omega) (marksL_ok _ _ _)
      · have hr : (mRow κ j vr mr).At W w0.heap.size := by
          refine hW _ ?_
          rcases List.mem_cons.1 h3 with e | e
          · rw [e]; simp
          · simp [e]
        exact view hr h4 h5 k0 k1 (by omega)
    · obtain ⟨gj, uj, nj, e1, e2, e3, e4⟩ := hG.2 j (by omega)
      refine ⟨gj, uj, nj, by rw [List.getElem?_append_left (by rw [hG.1]; omega)]; exact e1, e2, e3, fun W hW => e4 W (fun x hx => hW x (by simp [hx]))⟩
variable (κ)
/-- a list of lists of elements: what the value v reads as -/
def LL (w : World) (v : Value) (us : List Value) (ls : List (List (List Value))) : Prop :=
  ∃ g cap, v = .slice (some ⟨g, 0, none⟩) ls.length cap ∧ g < w.heap.size ∧ us.length = ls.length ∧ (∀ (i : Nat) (u : Value), us[i]? = some u → w.cell? ⟨g, i, none⟩ = some u) ∧ ∀ (i : Nat) (u : Value) (l : List (List Value)), us[i]? = some u → ls[i]? = some l → ElemsIn κ w u l
variable {κ}
theorem LL.below {v : Value} {us : List Value} {ls : List (List (List Value))} (h : LL κ w v us ls) (hb : Below w.heap.size w w') : LL κ w' v us ls := by
  obtain ⟨g, cap, h1, h2, h3, h4, h5⟩ := h
  exact ⟨g, cap, h1, Nat.lt_of_lt_of_le h2 hb.size, h3, fun i u hu => by rw [hb.cell (p := ⟨g, i, none⟩) h2]; exact h4 i u hu, fun i u l hu hl => (h5 i u l hu hl).below hb⟩
end

end Go.Proofs.YthihjkdankbnjaaGreat.PK
