/-
  Lists of children lent: LentKids, StaysKids, SameKids of a list and itself.
-/
import Derived.Test.YthihjkdankbnjaaGreatT0
import Derived.Test.YthihjkdankbnjaaGreatKCKids
import Derived.Test.YthihjkdankbnjaaGreatKAp
namespace Go.Proofs.YthihjkdankbnjaaGreat.P10
open Go Go.RowKit Go.Lib Go.Proofs.YthihjkdankbnjaaGreat.PK

/-- a list that was lent: room behind it, a mark in the room -/
def LentT (lo : Nat) (w : World) (v : Value) (l : List It) : Prop :=
  ∃ g c, v = .slice (some ⟨g, 0, none⟩) l.length c ∧ l.length + 1 ≤ c ∧ c ≤ 9223372036854775807 ∧ lo ≤ g ∧ g < w.heap.size ∧ (∀ (i : Nat) (x : It), l[i]? = some x → ∀ (j : Nat) (u : Value), x.cells[j]? = some u → w.cell? ⟨g, i * 2 + j, none⟩ = some u) ∧ w.cell? ⟨g, l.length * 2 + 1, none⟩ = some (.int .i64 (-77))
theorem LentT.below {lo : Nat} {w w' : World} {v : Value} {l : List It} (h : LentT lo w v l) (hb : Below w.heap.size w w') : LentT lo w' v l := by
  obtain ⟨g, c, h1, h2, h3, h0, h4, h5, h6⟩ := h
  exact ⟨g, c, h1, h2, h3, h0, Nat.lt_of_lt_of_le h4 hb.size, fun i x hi j u hu => (hb.cell (p := ⟨g, i * 2 + j, none⟩) h4).trans (h5 i x hi j u hu), (hb.cell (p := ⟨g, l.length * 2 + 1, none⟩) h4).trans h6⟩
theorem LentT.shape {lo : Nat} {w : World} {a : Option Addr} {n c : Nat} {l : List It} (h : LentT lo w (.slice a n c) l) : n = l.length ∧ n ≤ c ∧ c ≤ 9223372036854775807 ∧ ∃ g, a = some ⟨g, 0, none⟩ := by
  obtain ⟨g, c', e, h2, h3, _⟩ := h
  simp only [Value.slice.injEq] at e
  obtain ⟨rfl, rfl, rfl⟩ := e
  exact ⟨rfl, by omega, h3, g, rfl⟩
theorem LentT.its {lo : Nat} {w : World} {v : Value} {l : List It} (h : LentT lo w v l) : ItsIn w v l := by
  obtain ⟨g, c, h1, h2, h3, h0, h4, h5, h6⟩ := h
  refine ⟨_, c, by rw [cellsI_length]; exact h1, (fun e => by cases e), by rw [cellsI_length]; omega, cellsI_ok l, fun _ => ⟨g, 0, rfl, h4, fun i y hi j u hu => ?_⟩⟩
  rw [Nat.zero_add]
  unfold cellsI at hi
  rw [List.getElem?_map] at hi
  obtain ⟨x, hx, rfl⟩ := Option.map_eq_some_iff.1 hi
  exact h5 i x hx j u hu
theorem row_form {w : World} {lo n : Nat} {a : Option Addr} {c : Nat} {l : List It} (h : (tRow kKids (.slice a n c) (cellsI l)).At w lo) : n = l.length ∧ w.ownsRow lo 50 2 (.slice a n c) l.length (cellsI l).flatten := by
  have h' : w.ownsRow lo 50 2 (.slice a n c) l.length (cellsI l).flatten := by
    have : w.ownsRow lo 50 2 (.slice a n c) (cellsI l).length (cellsI l).flatten := h
    rwa [cellsI_length] at this
  refine ⟨?_, h'⟩
  rcases h'.2 with ⟨e, h0⟩ | ⟨g, cap, cur, e, _⟩
  · simp only [Value.slice.injEq] at e
    omega
  · simp only [Value.slice.injEq] at e
    omega
theorem flat_itemI {l : List It} {i : Nat} {x : It} (hi : l[i]? = some x) {j : Nat} {u : Value} (hu : x.cells[j]? = some u) : (cellsI l).flatten[i * 2 + j]? = some u :=
  flat_at (n := 2) (fun y hy => (cellsI_ok l).lens y hy) (cellsI_at hi) hu

/-- a list that is lent, as a row of its own -/
def lentRow (g q : Nat) (l : List It) : Row := ⟨.slice (some ⟨g, 0, none⟩) (l.length + 1) q, 50, 2, l.length + 1, (cellsI l).flatten ++ [.string ⟨#[]⟩, .int .i64 (-77)]⟩
theorem lentT_of_row {w : World} {lo g q : Nat} {l : List It} (h : (lentRow g q l).At w lo) : LentT lo w (.slice (some ⟨g, 0, none⟩) l.length q) l := by
  have h' : w.ownsRow lo 50 2 (.slice (some ⟨g, 0, none⟩) (l.length + 1) q) (l.length + 1) ((cellsI l).flatten ++ [.string ⟨#[]⟩, .int .i64 (-77)]) := h
  have hb : (Value.slice (some ⟨g, 0, none⟩) (l.length + 1) q).ownBlock = some g := rfl
  have hfl : (cellsI l).flatten.length = l.length * 2 := by rw [(cellsI_ok l).flat, cellsI_length]; rfl
  have key : ∀ (i : Nat) (u : Value), ((cellsI l).flatten ++ [.string ⟨#[]⟩, .int .i64 (-77)])[i]? = some u → w.cell? ⟨g, i, none⟩ = some u := fun i u hu => by
    have := h'.cells hb i u hu
    rwa [Go.WideShapes.add_plain, Nat.zero_add] at this
  obtain ⟨h1, h2⟩ := h'.lt g hb
  rcases h'.2 with ⟨e, _⟩ | ⟨g', cap, cur, e, _, _, h4, h5, _⟩
  · cases e
  · simp only [Value.slice.injEq, Option.some.injEq, Addr.mk.injEq] at e
    obtain ⟨_, _, rfl⟩ := e
    unfold maxLen at h5
    refine ⟨g, q, rfl, h4, by omega, h1, h2, fun i x hx j u hu => key _ _ ?_, key _ _ ?_⟩
    · have h9 := flat_itemI hx hu
      rw [List.getElem?_append_left (List.getElem?_eq_some_iff.1 h9).1]
      exact h9
    · rw [List.getElem?_append_right (by rw [hfl]; omega), hfl, show l.length * 2 + 1 - l.length * 2 = 1 by omega]
      rfl
set_option maxRecDepth 100000 in
theorem lent_row (w : World) (v : Value) (l : List It) (h : ItsIn w v l) (hl : l.length ≤ 1000000) :
    Calls Tryz.prog 6 #[v] w fun e w' => ∃ g q, e = .returned (.slice (some ⟨g, 0, none⟩) l.length q) ∧ (lentRow g q l).At w' w.heap.size ∧ Below w.heap.size w w' := by
  obtain ⟨i0, hi, hz0, hz1, hz2⟩ := info_parts infoEKids
  have H := Lib.hid (copyKids_any w v (cellsI l) h (by rw [cellsI_length]; exact hl))
  have HF := Lib.hid (fun (W : World) (a : Option Addr) (n c : Nat) (h9 : (tRow kKids (.slice a n c) (cellsI l)).At W w.heap.size) => row_form h9)
  have hfl : (cellsI l).flatten.length = l.length * 2 := by rw [(cellsI_ok l).flat, cellsI_length]; rfl
  have HFl := Lib.hid hfl
  obtain ⟨a0, c0, rfl⟩ := h.slice
  clear h hfl
  go_enter Tryz.func6, Tryz.ntmps6
  go_wp2_with (first
    | (go_at_call 21; (with_reducible refine H.out.mono ?_); rintro e w1 ⟨p1, n1, q1, rfl, hrow, hb⟩; obtain ⟨rfl, hown⟩ := HF.out w1 p1 n1 q1 hrow; have HO := Lib.hid hown; have HB := Lib.hid hb; clear hown hb hrow)
    | (at_builtin; go_loud (refine wpList_app rfl _ _ 22 rfl w.heap.size 50 i0 (Value.agg #[.string ⟨#[]⟩, .int .i64 0]) 2 24 Tryz.underlying22 hi hz0 hz1 hz2 rfl (by decide) (.slice p1 l.length q1) l.length (cellsI l).flatten rfl (owns_below HO.out (below_new _ _)) (some ⟨w1.heap.size, 0, none⟩) 1 1 [.string ⟨#[]⟩, .int .i64 (-77)] rfl rfl (by intro A hA j u hu; cases hA; exact cells_new w1 [.string ⟨#[]⟩, .int .i64 (-77)] 50 j u hu) (by intro e; cases e) (kKids.one _ ⟨_, _, rfl⟩) (by unfold maxLen; omega) (by omega) (thenBelow HB.out (below_new _ _)).size ?_; intro p2 q2 w2 hown2 hgrow2 hat2; have HB2 : Hid (Below w.heap.size w w2) := (thenBelow HB.out (below_new _ _)).grown hgrow2 (thenBelow HB.out (below_new _ _)).size (fun k q => (owned_at HO.out q).1); have HO2 := Lib.hid hown2; obtain ⟨g2, c2, e2, hc2, hg2, hg3⟩ := owns_form hown2 (by omega); obtain ⟨rfl, rfl⟩ : p2 = some ⟨g2, 0, none⟩ ∧ q2 = c2 := (by simpa using e2); have b1 : (l.length : Int) ≤ (q2 : Int) := (by omega); have b0 : (0 : Int) ≤ (l.length : Int) := (by omega); clear hown2 hgrow2 hat2 e2)))
  go_ret
  exact ⟨g2, q2, by first | rfl | simp, HO2.out, HB2.out⟩
theorem lent_any (w : World) (v : Value) (l : List It) (h : ItsIn w v l) (hl : l.length ≤ 1000000) :
    Calls Tryz.prog 6 #[v] w fun e w' => ∃ g q, e = .returned (.slice (some ⟨g, 0, none⟩) l.length q) ∧ LentT w.heap.size w' (.slice (some ⟨g, 0, none⟩) l.length q) l ∧ Below w.heap.size w w' := by
  refine (lent_row w v l h hl).mono ?_
  rintro e w' ⟨g, q, rfl, h1, h2⟩
  exact ⟨g, q, rfl, lentT_of_row h1, h2⟩
theorem same_its (w : World) (u v : Value) (l : List It) (h1 : ItsIn w u l) (h2 : ItsIn w v l) :
    Calls Tryz.prog 12 #[u, v] w fun e w' => e = .returned (.bool true) ∧ Below w.heap.size w w' := sameKids_same w u v (cellsI l) h1 h2
set_option maxRecDepth 100000 in
theorem stays_any {lo : Nat} (w : World) (u v : Value) (l : List It) (h1 : LentT lo w u l) (h2 : ItsIn w v l) :
    Calls Tryz.prog 15 #[u, v] w fun e w' => e = .returned (.bool true) ∧ Below w.heap.size w w' := by
  have HH := Lib.hid (same_its w u v l h1.its h2)
  obtain ⟨a2, c2, rfl⟩ := h2.slice
  obtain ⟨g, c, rfl, b1, b2, b0, b3, _, hm⟩ := h1
  have HB : Hid (∀ w', Below w.heap.size w w' → w'.cell? ⟨g, l.length * 2 + 1, none⟩ = some (.int .i64 (-77))) := fun w' hb => (hb.cell (p := ⟨g, l.length * 2 + 1, none⟩) b3).trans hm
  have k1 : (l.length : Int) + 1 ≤ (c : Int) := by omega
  have k2 : (0 : Int) ≤ (l.length : Int) + 1 := by omega
  have k3 : (l.length : Int) < (l.length : Int) + 1 := by omega
  have k4 : (0 : Int) ≤ (l.length : Int) := by omega
  have he : ((-77 : Int) == (-77 : Int)) = true := rfl
  clear hm
  go_enter Tryz.func15, Tryz.ntmps15
  go_wp2_with (go_at_call 12; (with_reducible refine HH.out.mono ?_); rintro e w1 ⟨rfl, hb⟩; have hcell := HB.out _ hb; have HB1 := Lib.hid hb; clear hb)
  go_ret
  exact ⟨by rfl, HB1.out⟩

end Go.Proofs.YthihjkdankbnjaaGreat.P10
