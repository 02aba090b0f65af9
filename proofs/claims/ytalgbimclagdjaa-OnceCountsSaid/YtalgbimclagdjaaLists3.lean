/-
  Lists of pins in a heap's order: exchange, up, down. No program.
-/
import Derived.Test.YtalgbimclagdjaaRows
namespace Go.Proofs.Ytalgbimclagdjaa.P3

abbrev PinL := List (Int × Int)
def num (l : PinL) (k : Nat) : Int := (l.getD k (0, 0)).1
def idn (l : PinL) (k : Nat) : Int := (l.getD k (0, 0)).2
def swp (l : PinL) (i j : Nat) : PinL := (l.set i (l.getD j (0, 0))).set j (l.getD i (0, 0))
theorem swp_length (l : PinL) (i j : Nat) : (swp l i j).length = l.length := by simp [swp]
theorem swp_at (l : PinL) (i j k : Nat) (hi : i < l.length) (hj : j < l.length) : (swp l i j).getD k (0, 0) = if k = j then l.getD i (0, 0) else if k = i then l.getD j (0, 0) else l.getD k (0, 0) := by
  simp only [swp, List.getD_eq_getElem?_getD, List.getElem?_set, List.length_set]
  by_cases h1 : k = j
  · subst h1; simp [hj]
  · by_cases h2 : k = i
    · subst h2; simp [h1, hi, Ne.symm h1]
    · rw [if_neg (Ne.symm h1), if_neg (Ne.symm h2), if_neg h1, if_neg h2]
theorem swp_num (l : PinL) (i j k : Nat) (hi : i < l.length) (hj : j < l.length) : num (swp l i j) k = if k = j then num l i else if k = i then num l j else num l k := by
  unfold num; rw [swp_at l i j k hi hj]; split
  · rfl
  · split <;> rfl
theorem swp_idn (l : PinL) (i j k : Nat) (hi : i < l.length) (hj : j < l.length) : idn (swp l i j) k = if k = j then idn l i else if k = i then idn l j else idn l k := by
  unfold idn; rw [swp_at l i j k hi hj]; split
  · rfl
  · split <;> rfl

theorem set_perm2 (l : PinL) : ∀ (i j : Nat), i < j → j < l.length → ((l.set i (l.getD j (0, 0))).set j (l.getD i (0, 0))).Perm l := by
  induction l with
  | nil => intro i j _ h; simp at h
  | cons a r ih =>
    intro i j hij hj
    cases j with
    | zero => omega
    | succ j =>
      cases i with
      | succ i =>
        simp only [List.set_cons_succ, List.getD_cons_succ]
        exact (ih i j (by omega) (by simpa using hj)).cons a
      | zero =>
        have hj' : j < r.length := by simpa using hj
        simp only [List.set_cons_zero, List.getD_cons_succ, List.getD_cons_zero, List.set_cons_succ]
        have e : r = r.take j ++ (r.getD j (0, 0)) :: r.drop (j + 1) := by
          rw [List.getD_eq_getElem?_getD, List.getElem?_eq_getElem hj', Option.getD_some, List.getElem_cons_drop, List.take_append_drop]
        have e2 : r.set j a = r.take j ++ a :: r.drop (j + 1) := List.set_eq_take_append_cons_drop.trans (by rw [if_pos hj'])
        rw [e2]
        have p1 : ((r.getD j (0, 0)) :: (r.take j ++ a :: r.drop (j + 1))).Perm ((r.getD j (0, 0)) :: a :: (r.take j ++ r.drop (j + 1))) := (List.perm_middle).cons _
        have p2 : (a :: r).Perm (a :: (r.getD j (0, 0)) :: (r.take j ++ r.drop (j + 1))) := by
          refine List.Perm.cons a ?_
          have := @List.perm_middle _ (r.getD j (0, 0)) (r.take j) (r.drop (j + 1))
          rw [← e] at this
          exact this
        exact (p1.trans (List.Perm.swap _ _ _)).trans p2.symm
theorem swp_perm (l : PinL) (i j : Nat) (hij : i ≠ j) (hi : i < l.length) (hj : j < l.length) : (swp l i j).Perm l := by
  rcases Nat.lt_or_gt_of_ne hij with h | h
  · exact set_perm2 l i j h hj
  · have : swp l i j = swp l j i := by
      apply List.ext_getElem
      · simp [swp]
      · intro k h1 h2
        have a1 := swp_at l i j k hi hj
        have a2 := swp_at l j i k hj hi
        rw [List.getD_eq_getElem?_getD, List.getElem?_eq_getElem h1, Option.getD_some] at a1
        rw [List.getD_eq_getElem?_getD, List.getElem?_eq_getElem h2, Option.getD_some] at a2
        rw [a1, a2]
        by_cases e1 : k = j
        · subst e1; simp [Ne.symm hij]
        · by_cases e2 : k = i
          · subst e2; simp [e1]
          · simp [e1, e2]
    rw [this]
    exact set_perm2 l j i h hi

/-- the parent -/
abbrev par (k : Nat) : Nat := (k - 1) / 2
/-- the first n are in a heap's order -/
def Ord (f : Nat → Int) (n : Nat) : Prop := ∀ k, 0 < k → k < n → f (par k) ≤ f k
/-- .. but at j, which may be too small -/
def UpTo (f : Nat → Int) (n j : Nat) : Prop := (∀ k, 0 < k → k < n → k ≠ j → f (par k) ≤ f k) ∧ ∀ k, 0 < k → k < n → par k = j → 0 < j → f (par j) ≤ f k
/-- .. but at i, which may be too great or too small -/
def Hole (f : Nat → Int) (n i : Nat) : Prop := (∀ k, 0 < k → k < n → k ≠ i → par k ≠ i → f (par k) ≤ f k) ∧ ∀ k, 0 < k → k < n → par k = i → 0 < i → f (par i) ≤ f k

def swf (f : Nat → Int) (i j : Nat) (k : Nat) : Int := if k = j then f i else if k = i then f j else f k

theorem up_stop {f : Nat → Int} {n j : Nat} (h : UpTo f n j) (hs : j = 0 ∨ f (par j) ≤ f j) : Ord f n := by
  intro k h0 hk
  by_cases e : k = j
  · subst e
    rcases hs with rfl | hs
    · omega
    · exact hs
  · exact h.1 k h0 hk e
theorem up_step {f : Nat → Int} {n j : Nat} (h : UpTo f n j) (h0 : 0 < j) (hj : j < n) (hl : f j < f (par j)) : UpTo (swf f (par j) j) n (par j) := by
  have hp : par j < j := by unfold par; omega
  refine ⟨fun k k0 kn ke => ?_, fun k k0 kn ke p0 => ?_⟩
  · have hpk : par k < k := by unfold par; omega
    unfold swf
    by_cases e1 : k = j
    · subst e1
      rw [if_neg (by omega), if_pos rfl, if_pos rfl]
      omega
    · rw [if_neg e1, if_neg ke]
      by_cases e2 : par k = j
      · rw [if_pos e2]
        exact h.2 k k0 kn e2 h0
      · rw [if_neg e2]
        by_cases e3 : par k = par j
        · rw [if_pos e3]
          have := h.1 k k0 kn e1
          rw [e3] at this
          omega
        · rw [if_neg e3]
          exact h.1 k k0 kn e1
  · have hpk : par k < k := by unfold par; omega
    have hpp : par (par j) < par j := by unfold par at *; omega
    have h1 := h.1 (par j) p0 (by omega) (by omega)
    unfold swf
    rw [if_neg (by omega), if_neg (by omega)]
    by_cases e1 : k = j
    · rw [if_pos e1]; exact h1
    · rw [if_neg e1, if_neg (by omega)]
      have := h.1 k k0 kn e1
      rw [ke] at this
      omega

theorem down_stop {f : Nat → Int} {n i : Nat} (h : Hole f n i) (hs : ∀ k, 0 < k → k < n → par k = i → f i ≤ f k) : UpTo f n i :=
  ⟨fun k k0 kn ke => by
    by_cases e : par k = i
    · rw [e]; exact hs k k0 kn e
    · exact h.1 k k0 kn ke e, h.2⟩
theorem up_done {f : Nat → Int} {n i : Nat} (h : UpTo f n i) (hm : f (par i) ≤ f i) : Ord f n := up_stop h (.inr hm)
theorem down_step {f : Nat → Int} {n i j : Nat} (h : Hole f n i) (hj0 : 0 < j) (hj : j < n) (hp : par j = i) (hl : f j < f i) (hmin : ∀ k, 0 < k → k < n → par k = i → f j ≤ f k) :
    Hole (swf f i j) n j ∧ swf f i j (par j) ≤ swf f i j j := by
  have hij : i < j := by unfold par at hp; omega
  refine ⟨⟨fun k k0 kn ke pe => ?_, fun k k0 kn ke p0 => ?_⟩, ?_⟩
  · have hpk : par k < k := by unfold par; omega
    unfold swf
    rw [if_neg pe, if_neg ke]
    by_cases e1 : par k = i
    · rw [if_pos e1, if_neg (by omega)]
      exact hmin k k0 kn e1
    · rw [if_neg e1]
      by_cases e2 : k = i
      · rw [if_pos e2]
        subst e2
        exact h.2 j hj0 hj hp k0
      · rw [if_neg e2]
        exact h.1 k k0 kn e2 e1
  · have hpk : par k < k := by unfold par; omega
    unfold swf
    rw [hp, if_neg (by omega), if_pos rfl, if_neg (by omega), if_neg (by omega)]
    have := h.1 k k0 kn (by omega) (by omega)
    rw [ke] at this
    exact this
  · unfold swf
    rw [hp, if_neg (by omega), if_pos rfl, if_pos rfl]
    omega
theorem ord_least {f : Nat → Int} {n : Nat} (h : Ord f n) : ∀ k, k < n → f 0 ≤ f k := by
  intro k
  induction k using Nat.strongRecOn with
  | ind k ih =>
    intro hk
    by_cases e : k = 0
    · subst e; exact Int.le_refl _
    · have hpk : par k < k := by unfold par; omega
      have := h k (by omega) hk
      have := ih (par k) hpk (by omega)
      omega
theorem ord_upto {f : Nat → Int} {n : Nat} (h : Ord f n) : UpTo f (n + 1) n := by
  refine ⟨fun k k0 kn ke => h k k0 (by omega), fun k k0 kn ke _ => ?_⟩
  unfold par at ke
  omega
/-- one changed place in a heap's order is a hole -/
theorem ord_hole {f g : Nat → Int} {n i : Nat} (h : Ord f (n + 1)) (hi : i < n) (hg : ∀ k, k < n → k ≠ i → g k = f k) : Hole g n i := by
  refine ⟨fun k k0 kn ke pe => ?_, fun k k0 kn ke p0 => ?_⟩
  · have hpk : par k < k := by unfold par; omega
    rw [hg k kn ke, hg (par k) (by omega) pe]
    exact h k k0 (by omega)
  · have hpk : par k < k := by unfold par; omega
    have hpi : par i < i := by unfold par; omega
    rw [hg k kn (by omega), hg (par i) (by omega) (by omega)]
    have h1 := h k k0 (by omega)
    have h2 := h i p0 (by omega)
    rw [ke] at h1
    omega
theorem ord_cut {f : Nat → Int} {n m : Nat} (h : Ord f n) (hm : m ≤ n) : Ord f m := fun k k0 kn => h k k0 (by omega)
theorem ord_congr {f g : Nat → Int} {n : Nat} (h : Ord f n) (hg : ∀ k, k < n → g k = f k) : Ord g n := fun k k0 kn => by
  have hpk : par k < k := by unfold par; omega
  rw [hg k kn, hg (par k) (by omega)]
  exact h k k0 kn

end Go.Proofs.Ytalgbimclagdjaa.P3
