/-
  Kids: what the reference's ReadKids comes to, and its state on the way.
-/
import Derived.Test.YthihjkdankbnjaaGreatT3
import Derived.Test.YthihjkdankbnjaaGreatRkText
import Derived.Test.YthihjkdankbnjaaGreatRkEnd
import Derived.Test.YthihjkdankbnjaaGreatKCKids
namespace Go.Proofs.YthihjkdankbnjaaGreat.P10
open Go Go.RowKit Go.Lib Go.Proofs.YthihjkdankbnjaaGreat.PK
open Go.Proofs.YthihjkdankbnjaaGreat.P0 (low str str_size low_length size_app text_ext text_app str_list)
open Go.Proofs.YthihjkdankbnjaaGreat.PP (RGetAt refNum refTxt refStr refFin Fr rGetNum_any rGetText_any rEnd_any)

/-- one item more is read -/
def stepR (s : ByteArray × Int × List It) : ByteArray × Int × List It :=
  let k := refNum 2 s.1 s.2.1
  let y := refTxt k.2.1 k.2.2
  (y.2.1, y.2.2, s.2.2 ++ [⟨y.1, k.1⟩])
/-- j items are read, or as many as there is no error -/
def runR (B : ByteArray) (e : Int) : Nat → ByteArray × Int × List It
  | 0 => (B, e, [])
  | j + 1 => if (runR B e j).2.1 = 0 then stepR (runR B e j) else runR B e j
theorem runR_next {B : ByteArray} {e : Int} {j : Nat} (h : (runR B e j).2.1 = 0) : runR B e (j + 1) = stepR (runR B e j) := if_pos h
theorem runR_stay {B : ByteArray} {e : Int} {j : Nat} (h : (runR B e j).2.1 ≠ 0) : ∀ {m : Nat}, j ≤ m → runR B e m = runR B e j := by
  intro m hm
  induction m with
  | zero => rw [Nat.le_zero.1 hm]
  | succ m ih =>
    by_cases hj : j = m + 1
    · rw [hj]
    · have e1 := ih (by omega)
      rw [runR, e1, if_neg h]
theorem refStr_left {n : Int} {B : ByteArray} {e : Int} (h : (refStr n B e).2.2 = 0) : e = 0 ∧ (refStr n B e).1.size + (refStr n B e).2.1.size = B.size ∧ (refStr n B e).1.size = n.toNat := by
  unfold refStr at h ⊢
  by_cases he : e = 0
  · rw [if_pos he] at h ⊢
    by_cases hn : n < 0
    · rw [if_pos hn] at h; cases h
    · rw [if_neg hn] at h ⊢
      by_cases hk : n ≤ B.size
      · rw [if_pos hk]
        refine ⟨he, ?_, ?_⟩
        · simp only [ByteArray.size_extract]; omega
        · simp only [ByteArray.size_extract]; omega
      · rw [if_neg hk] at h; cases h
  · rw [if_neg he] at h
    exact absurd h he
theorem refNum_left {n : Nat} {B : ByteArray} {e : Int} (h : (refNum n B e).2.2 = 0) : e = 0 ∧ n + (refNum n B e).2.1.size = B.size := by
  obtain ⟨h1, h2, h3⟩ := refStr_left (n := (n : Int)) h
  have : (refNum n B e).2.1 = (refStr n B e).2.1 := rfl
  rw [this]
  exact ⟨h1, by omega⟩
theorem refTxt_left {B : ByteArray} {e : Int} (h : (refTxt B e).2.2 = 0) : e = 0 ∧ 2 + (refTxt B e).1.size + (refTxt B e).2.1.size = B.size := by
  obtain ⟨h1, h2, h3⟩ := refStr_left (n := (refNum 2 B e).1) h
  obtain ⟨h4, h5⟩ := refNum_left h1
  refine ⟨h4, ?_⟩
  have e1 : (refTxt B e).1 = (refStr (refNum 2 B e).1 (refNum 2 B e).2.1 (refNum 2 B e).2.2).1 := rfl
  have e2 : (refTxt B e).2.1 = (refStr (refNum 2 B e).1 (refNum 2 B e).2.1 (refNum 2 B e).2.2).2.1 := rfl
  rw [e1, e2]
  omega
theorem stepR_left {s : ByteArray × Int × List It} (h : (stepR s).2.1 = 0) : s.2.1 = 0 ∧ sumI (stepR s).2.2 + (stepR s).1.size = sumI s.2.2 + s.1.size := by
  obtain ⟨h3, h4⟩ := refTxt_left (show (refTxt (refNum 2 s.1 s.2.1).2.1 (refNum 2 s.1 s.2.1).2.2).2.2 = 0 from h)
  obtain ⟨h5, h6⟩ := refNum_left h3
  refine ⟨h5, ?_⟩
  unfold stepR
  simp only [sumI_app, sumI_cons, sumI_nil, It.need]
  omega
theorem runR_left {B : ByteArray} {e : Int} : ∀ {j : Nat}, (runR B e j).2.1 = 0 → e = 0 ∧ sumI (runR B e j).2.2 + (runR B e j).1.size = B.size
  | 0, h => ⟨h, by show sumI [] + B.size = B.size; rw [sumI_nil]; omega⟩
  | j + 1, h => by
    by_cases hj : (runR B e j).2.1 = 0
    · rw [runR_next hj] at h ⊢
      obtain ⟨_, h2⟩ := stepR_left h
      obtain ⟨h3, h4⟩ := runR_left hj
      exact ⟨h3, by omega⟩
    · rw [runR_stay hj (Nat.le_succ j)] at h
      exact absurd h hj
/-- what is read in all: what is left, the error, the items -/
def allR (b : ByteArray) : ByteArray × Int × List It := runR (refNum 1 b 0).2.1 (refNum 1 b 0).2.2 (refNum 1 b 0).1.toNat
open Classical in
/-- what ReadKids tells: the items, the error -/
noncomputable def readR (b : ByteArray) : List It × Int :=
  if refFin (allR b).1 (allR b).2.1 = 0 then (if (layR (allR b).2.2).2 = 0 ∧ (layR (allR b).2.2).1 = b then ((allR b).2.2, 0) else ([], 6)) else ([], refFin (allR b).1 (allR b).2.1)
theorem allR_sum {b : ByteArray} (h : refFin (allR b).1 (allR b).2.1 = 0) : (allR b).2.1 = 0 ∧ sumI (allR b).2.2 ≤ b.size := by
  have h1 : (allR b).2.1 = 0 := by
    unfold refFin at h
    by_cases he : (allR b).2.1 = 0
    · exact he
    · rw [if_neg he] at h; exact h
  obtain ⟨h2, h3⟩ := runR_left (j := (refNum 1 b 0).1.toNat) h1
  obtain ⟨_, h5⟩ := refNum_left h2
  refine ⟨h1, ?_⟩
  have e1 : (allR b).2.2 = (runR (refNum 1 b 0).2.1 (refNum 1 b 0).2.2 (refNum 1 b 0).1.toNat).2.2 := rfl
  rw [e1]
  omega

/-- the reader at block G, the row of items read so far -/
structure RdS (w : World) (G : Nat) (B : ByteArray) (e : Int) (v : Value) (l : List It) (wr : World) : Prop where
  g : RGetAt wr G B e
  row : wr.ownsRow (G + 1) 50 2 v l.length (cellsI l).flatten
  lo : w.heap.size ≤ G
  below : Below w.heap.size w wr
theorem RdS.lt {w wr : World} {G : Nat} {B : ByteArray} {e : Int} {v : Value} {l : List It} (h : RdS w G B e v l wr) : G < wr.heap.size := lt_of_block h.g
theorem owns_fr {G base n : Nat} {wr w' : World} {v : Value} {xs : List Value} (h : wr.ownsRow base 50 2 v n xs) (hb : G < base) (hf : Fr G wr w') : w'.ownsRow base 50 2 v n xs := by
  refine ⟨h.1, h.2.imp id fun ⟨g, cap, cur, h1, h2, h3, h4⟩ => ⟨g, cap, cur, h1, h2, hf.keeps g _ _ _ h3 (by decide) (by omega), h4⟩⟩
theorem RdS.call {w wr w' : World} {G : Nat} {B B' : ByteArray} {e e' : Int} {v : Value} {l : List It} (h : RdS w G B e v l wr) (hg : RGetAt w' G B' e') (hf : Fr G wr w') : RdS w G B' e' v l w' :=
  ⟨hg, owns_fr h.row (Nat.lt_succ_self _) hf, h.lo, h.below.trans (hf.below.mono h.lo)⟩
theorem RdS.over {w wr w' : World} {G : Nat} {B : ByteArray} {e : Int} {v : Value} {l : List It} (h : RdS w G B e v l wr) (k : Below wr.heap.size wr w') : RdS w G B e v l w' :=
  ⟨(k.block G h.lt).trans h.g, owns_below h.row k, h.lo, thenBelow h.below k⟩
/-- an item on its way, in block X -/
structure RdX (w : World) (G : Nat) (B : ByteArray) (e : Int) (v : Value) (l : List It) (X : Nat) (c : It) (wr : World) : Prop where
  s : RdS w G B e v l wr
  x : wr.heap[X]? = some (.cells #[.string c.key, .int .i64 c.page] 50 (0, 0))
  hi : G < X
  row : v.ownBlock ≠ some X
theorem RdS.item {w wr : World} {G : Nat} {B : ByteArray} {e : Int} {v : Value} {l : List It} (h : RdS w G B e v l wr) (c : It) : RdX w G B e v l wr.heap.size c (wr.alloc (.cells #[.string c.key, .int .i64 c.page] 50)) :=
  ⟨h.over (below_new _ _), new_at wr _ _, h.lt, fun q => by
    have := (h.row.lt _ q).2
    omega⟩
theorem RdX.call {w wr w' : World} {G X : Nat} {B B' : ByteArray} {e e' : Int} {v : Value} {l : List It} {c : It} (h : RdX w G B e v l X c wr) (hg : RGetAt w' G B' e') (hf : Fr G wr w') : RdX w G B' e' v l X c w' :=
  ⟨h.s.call hg hf, hf.keeps X _ _ _ h.x (by decide) (by have := h.hi; omega), h.hi, h.row⟩
theorem RdX.set {w wr : World} {G X : Nat} {B : ByteArray} {e : Int} {v : Value} {l : List It} {c c' : It} (h : RdX w G B e v l X c wr) (j : Nat) (u : Value) (hc : (#[.string c.key, .int .i64 c.page] : Array Value).setIfInBounds j u = #[.string c'.key, .int .i64 c'.page]) : RdX w G B e v l X c' (wr.setCell ⟨X, j, none⟩ u) := by
  have hne : G ≠ X := by have := h.hi; omega
  have hlo : w.heap.size ≤ X := by have := h.hi; have := h.s.lo; omega
  refine ⟨⟨?_, ?_, h.s.lo, ?_⟩, ?_, h.hi, h.row⟩
  · have := h.s.g
    unfold RGetAt at this ⊢
    rw [Below.heap_setCell _ _ _ _ hne]
    exact this
  · exact h.s.row.kept (setCell_grownBy wr X j u) (by
      cases hb : v.ownBlock with
      | none => exact .inl rfl
      | some g => exact .inr (fun q => h.row (hb.trans q)))
  · exact h.s.below.setCell hlo u
  · rw [set_at h.x, hc]
theorem RdX.cells {w wr : World} {G X : Nat} {B : ByteArray} {e : Int} {v : Value} {l : List It} {c : It} (h : RdX w G B e v l X c wr) : wr.cell? ⟨X, 0, none⟩ = some (.string c.key) ∧ wr.cell? ⟨X, 1, none⟩ = some (.int .i64 c.page) :=
  ⟨cell_at h.x 0, cell_at h.x 1⟩

end Go.Proofs.YthihjkdankbnjaaGreat.P10
