/-
  The reference's list of free ids: rising lists; how it stands in memory. (For any seat that has rootstockref1.Free.)
-/
import Derived.Test.YtoiaamijjcjjiaaF1
namespace Go.Proofs.Ytoiaamijjcjjiaa.P7
open Go Go.RowKit Go.Lib Go.Proofs.Ytoiaamijjcjjiaa.PK

def Rising (l : List Int) : Prop := l.Pairwise (· < ·)
theorem low_lt : ∀ {l : List Int} {x : Int} (j : Nat) (y : Int), j < lowN l x → l[j]? = some y → y < x
  | [], x, j, y, _, h => by simp at h
  | z :: l, x, j, y, hj, h => by
    unfold lowN at hj
    by_cases hz : z < x
    · rw [List.takeWhile_cons_of_pos (by simpa using hz), List.length_cons] at hj
      cases j with
      | zero => obtain rfl : z = y := by simpa using h
                exact hz
      | succ j => exact low_lt (l := l) (x := x) j y (by unfold lowN; omega) (by simpa using h)
    · rw [List.takeWhile_cons_of_neg (by simpa using hz)] at hj
      exact absurd hj (Nat.not_lt_zero _)
theorem low_le (l : List Int) (x : Int) : lowN l x ≤ l.length := (List.takeWhile_sublist _).length_le
theorem low_ge : ∀ {l : List Int} {x : Int}, Rising l → ∀ y ∈ l.drop (lowN l x), x ≤ y
  | [], x, _, y, h => by simp at h
  | z :: l, x, hr, y, h => by
    have hr' := List.pairwise_cons.1 hr
    unfold lowN at h
    by_cases hz : z < x
    · rw [List.takeWhile_cons_of_pos (by simpa using hz), List.length_cons, List.drop_succ_cons] at h
      exact low_ge hr'.2 y h
    · rw [List.takeWhile_cons_of_neg (by simpa using hz), List.length_nil, List.drop_zero] at h
      rcases List.mem_cons.1 h with rfl | h
      · omega
      · have := hr'.1 y h; omega
theorem put_rising {l : List Int} {x : Int} (h : Rising l) : Rising (putS l x) := by
  unfold putS
  split
  · exact h
  · rename_i hne
    have h1 : ∀ y ∈ l.take (lowN l x), y < x := fun y hy => by
      obtain ⟨j, hj⟩ := List.getElem?_of_mem hy
      have hlt := (List.getElem?_eq_some_iff.1 hj).1
      rw [List.length_take] at hlt
      rw [List.getElem?_take_of_lt (by omega)] at hj
      exact low_lt j y (by omega) hj
    have h2 : ∀ y ∈ l.drop (lowN l x), x < y := fun y hy => by
      have h3 := low_ge (x := x) h y hy
      refine Int.lt_iff_le_and_ne.2 ⟨h3, fun e => ?_⟩
      subst e
      obtain ⟨j, hj⟩ := List.getElem?_of_mem hy
      cases j with
      | zero => rw [List.getElem?_drop, Nat.add_zero] at hj; exact hne hj
      | succ j =>
        have hd : Rising (l.drop (lowN l x)) := h.sublist (List.drop_sublist _ _)
        obtain ⟨z, hz⟩ : ∃ z, (l.drop (lowN l x))[0]? = some z := ⟨_, List.getElem?_eq_getElem (by have := (List.getElem?_eq_some_iff.1 hj).1; omega)⟩
        have hzm := low_ge (x := x) h z (List.mem_of_getElem? hz)
        obtain ⟨p0, q0⟩ := List.getElem?_eq_some_iff.1 hz
        obtain ⟨p1, q1⟩ := List.getElem?_eq_some_iff.1 hj
        have := List.pairwise_iff_getElem.1 hd 0 (j + 1) p0 p1 (by omega)
        rw [q0, q1] at this
        omega
    have h0 : Rising (l.take (lowN l x)) := h.sublist (List.take_sublist _ _)
    have h9 : Rising (l.drop (lowN l x)) := h.sublist (List.drop_sublist _ _)
    show List.Pairwise _ _
    rw [List.append_assoc, List.pairwise_append]
    refine ⟨h0, ?_, fun a ha b hb => ?_⟩
    · rw [List.singleton_append, List.pairwise_cons]
      exact ⟨h2, h9⟩
    · rcases List.mem_append.1 hb with q | q
      · rw [List.mem_singleton.1 q]; exact h1 a ha
      · have := h1 a ha; have := h2 b q; omega
theorem put_mem {l : List Int} {x y : Int} : y ∈ putS l x ↔ y ∈ l ∨ y = x := by
  unfold putS
  split
  · rename_i he
    exact ⟨.inl, fun h => h.elim id fun e => e ▸ List.mem_of_getElem? he⟩
  · have e : y ∈ l ↔ y ∈ l.take (lowN l x) ∨ y ∈ l.drop (lowN l x) := by
      rw [← List.mem_append, List.take_append_drop]
    simp only [List.mem_append, List.mem_singleton]
    rw [e]
    constructor
    · rintro ((h | h) | h)
      · exact .inl (.inl h)
      · exact .inr h
      · exact .inl (.inr h)
    · rintro ((h | h) | h)
      · exact .inl (.inl h)
      · exact .inr h
      · exact .inl (.inr h)
theorem drop_rising {l : List Int} {x : Int} (h : Rising l) : Rising (dropS l x) := h.sublist List.filter_sublist
theorem drop_mem {l : List Int} {x y : Int} : y ∈ dropS l x ↔ y ∈ l ∧ y ≠ x := by
  unfold dropS
  rw [List.mem_filter]
  simp
theorem rising_ext : ∀ {l m : List Int}, Rising l → Rising m → (∀ x, x ∈ l ↔ x ∈ m) → l = m
  | [], [], _, _, _ => rfl
  | [], y :: m, _, _, h => absurd ((h y).2 List.mem_cons_self) (by simp)
  | x :: l, [], _, _, h => absurd ((h x).1 List.mem_cons_self) (by simp)
  | x :: l, y :: m, hl, hm, h => by
    have hl' := List.pairwise_cons.1 hl
    have hm' := List.pairwise_cons.1 hm
    have e : x = y := by
      have h1 := (h x).1 List.mem_cons_self
      have h2 := (h y).2 List.mem_cons_self
      rcases List.mem_cons.1 h1 with e | h1
      · exact e
      · rcases List.mem_cons.1 h2 with e | h2
        · exact e.symm
        · have := hm'.1 x h1; have := hl'.1 y h2; omega
    subst e
    rw [rising_ext hl'.2 hm'.2 fun z => ⟨fun hz => ?_, fun hz => ?_⟩]
    · rcases List.mem_cons.1 ((h z).1 (List.mem_cons_of_mem _ hz)) with e | q
      · have := hl'.1 z hz; omega
      · exact q
    · rcases List.mem_cons.1 ((h z).2 (List.mem_cons_of_mem _ hz)) with e | q
      · have := hm'.1 z hz; omega
      · exact q

/-- the reference's list, as it stands -/
structure FM where
  lv : Value
  wv : Value
  pages : Int
  L : List Int
  W : List (Int × Int)
def FM.cells (F : FM) : List Value := [.int .i64 F.pages, F.lv, F.wv]
def wcells (p : Int × Int) : List Value := [.int .i64 p.1, .int .i64 p.2]
def wRow (v : Value) (l : List (Int × Int)) : Row := ⟨v, 77, 2, l.length, l.flatMap wcells⟩
def FM.rows (F : FM) (r : Nat) : List Row := [bl r F.cells 35, iRow F.lv F.L, wRow F.wv F.W]
theorem wflat_at : ∀ {l : List (Int × Int)} {k : Nat} {p : Int × Int}, l[k]? = some p → (l.flatMap wcells)[k * 2]? = some (.int .i64 p.1) ∧ (l.flatMap wcells)[k * 2 + 1]? = some (.int .i64 p.2)
  | [], k, p, h => by simp at h
  | q :: l, 0, p, h => by
    obtain rfl : q = p := by simpa using h
    exact ⟨rfl, rfl⟩
  | q :: l, k + 1, p, h => by
    obtain ⟨h1, h2⟩ := wflat_at (l := l) (k := k) (p := p) (by simpa using h)
    rw [List.flatMap_cons, show (k + 1) * 2 = k * 2 + 2 by omega, show k * 2 + 2 + 1 = k * 2 + 1 + 2 by omega]
    exact ⟨h1, h2⟩
theorem wflat_len (l : List (Int × Int)) : (l.flatMap wcells).length = l.length * 2 := by
  induction l with
  | nil => rfl
  | cons p l ih => rw [List.flatMap_cons, List.length_append, ih, List.length_cons]; show 2 + _ = _; omega
theorem wflat_one (l : List (Int × Int)) : ∀ u ∈ l.flatMap wcells, u.oneCell' = true := fun u hu => by
  obtain ⟨p, _, hu⟩ := List.mem_flatMap.1 hu
  simp only [wcells, List.mem_cons, List.not_mem_nil, or_false] at hu
  rcases hu with rfl | rfl <;> rfl
structure FAt (w0 : World) (R : List Row) (r : Nat) (F : FM) (w : World) : Prop where
  rows : Rws w0 (F.rows r ++ R) w
  few : F.L.length ≤ 10000
  few2 : F.W.length ≤ 10000
section
variable {w0 w w' : World} {R : List Row} {r : Nat} {F : FM}
theorem FAt.over (h : FAt w0 R r F w) (hb : Below w.heap.size w w') : FAt w0 R r F w' := ⟨h.rows.over hb, h.few, h.few2⟩
theorem FAt.blk (h : FAt w0 R r F w) : w.heap[r]? = some (.cells F.cells.toArray 35 (0, 0)) := h.rows.block (by simp [FM.rows])
theorem FAt.cell (h : FAt w0 R r F w) (j : Nat) : w.cell? ⟨r, j, none⟩ = F.cells[j]? := by rw [cell_at h.blk]; simp
theorem FAt.lrow (h : FAt w0 R r F w) : (iRow F.lv F.L).At w w0.heap.size := h.rows.own _ (by simp [FM.rows])
theorem FAt.wrow (h : FAt w0 R r F w) : (wRow F.wv F.W).At w w0.heap.size := h.rows.own _ (by simp [FM.rows])
theorem FAt.lshape (h : FAt w0 R r F w) : ∃ a c, F.lv = .slice a F.L.length c ∧ (a = none → F.L.length = 0 ∧ c = 0) := by
  rcases (iRow_owns.1 h.lrow).2 with ⟨e, h0⟩ | ⟨g, cap, cur, e, _⟩
  · exact ⟨none, 0, by rw [e, h0], fun _ => ⟨h0, rfl⟩⟩
  · exact ⟨_, cap, e, fun q => by cases q⟩
theorem FAt.wshape (h : FAt w0 R r F w) : ∃ a c, F.wv = .slice a F.W.length c ∧ (a = none → F.W.length = 0) ∧ ∀ w', FAt w0 R r F w' → ∀ (k : Nat) (p : Int × Int), F.W[k]? = some p → ∃ g, a = some ⟨g, 0, none⟩ ∧ w'.cell? ⟨g, k * 2, none⟩ = some (.int .i64 p.1) ∧ w'.cell? ⟨g, k * 2 + 1, none⟩ = some (.int .i64 p.2) := by
  rcases h.wrow.slice with ⟨e, h0, _⟩ | ⟨g, cap, e, hb, _⟩
  · have h0' : F.W.length = 0 := h0
    refine ⟨none, 0, by rw [h0']; exact e, fun _ => h0', fun w' _ k p hk => ?_⟩
    have := (List.getElem?_eq_some_iff.1 hk).1
    omega
  · refine ⟨_, cap, e, (fun q => by cases q), fun w' hw' k p hk => ⟨g, rfl, ?_⟩⟩
    obtain ⟨h1, h2⟩ := wflat_at hk
    exact ⟨hw'.wrow.cell hb h1, hw'.wrow.cell hb h2⟩
end
def FM.all (F : FM) : List Int := F.W.foldl (fun o p => putS o p.2) F.L
def FM.pend (F : FM) (tx : Int) : List Int := F.W.foldl (fun o p => if p.1 = tx then putS o p.2 else o) []
theorem fold_len (f : List Int → Int × Int → List Int) (hf : ∀ o p, (f o p).length ≤ o.length + 1) : ∀ (W : List (Int × Int)) (o : List Int), (W.foldl f o).length ≤ o.length + W.length
  | [], o => by simp
  | p :: W, o => by
    have h1 := fold_len f hf W (f o p)
    have h2 := hf o p
    simp only [List.foldl_cons, List.length_cons]
    omega
theorem fold_next (f : List Int → Int × Int → List Int) {W : List (Int × Int)} {k : Nat} {p : Int × Int} (hp : W[k]? = some p) (o : List Int) : (W.take (k + 1)).foldl f o = f ((W.take k).foldl f o) p := by
  rw [List.take_add_one, hp, List.foldl_append]
  rfl

end Go.Proofs.Ytoiaamijjcjjiaa.P7
