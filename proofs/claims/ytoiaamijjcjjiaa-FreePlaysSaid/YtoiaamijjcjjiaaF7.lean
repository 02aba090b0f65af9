/-
  Lists of ints lent: LentInts, StaysInts, SameInts. (For any seat that has rootstockbook's.)
-/
import Derived.Test.YtoiaamijjcjjiaaKCInts
import Derived.Test.YtoiaamijjcjjiaaKAp
import Derived.Test.YtoiaamijjcjjiaaF0
namespace Go.Proofs.Ytoiaamijjcjjiaa.P7
open Go Go.RowKit Go.Lib Go.Proofs.Ytoiaamijjcjjiaa.PK

/-- a list that was lent: room behind it, a mark in the room -/
def LentI (lo : Nat) (w : World) (v : Value) (l : List Int) : Prop :=
  ∃ g c, v = .slice (some ⟨g, 0, none⟩) l.length c ∧ l.length + 1 ≤ c ∧ c ≤ 9223372036854775807 ∧ lo ≤ g ∧ g < w.heap.size ∧ (∀ (i : Nat) (x : Int), l[i]? = some x → w.cell? ⟨g, i, none⟩ = some (.int .i64 x)) ∧ w.cell? ⟨g, l.length, none⟩ = some (.int .i64 (-77))
theorem LentI.below {lo : Nat} {w w' : World} {v : Value} {l : List Int} (h : LentI lo w v l) (hb : Below w.heap.size w w') : LentI lo w' v l := by
  obtain ⟨g, c, h1, h2, h3, h0, h4, h5, h6⟩ := h
  exact ⟨g, c, h1, h2, h3, h0, Nat.lt_of_lt_of_le h4 hb.size, fun i x hi => (hb.cell (p := ⟨g, i, none⟩) h4).trans (h5 i x hi), (hb.cell (p := ⟨g, l.length, none⟩) h4).trans h6⟩
theorem LentI.il {lo : Nat} {w : World} {v : Value} {l : List Int} (h : LentI lo w v l) : IL w v l := by
  obtain ⟨g, c, h1, h2, h3, h0, h4, h5, h6⟩ := h
  exact ⟨_, c, h1, (fun e => by cases e), by omega, fun _ => ⟨g, 0, rfl, h4, fun i x hi => by rw [Nat.zero_add]; exact h5 i x hi⟩⟩
theorem iRow_form {w : World} {lo n : Nat} {a : Option Addr} {c : Nat} {l : List Int} (h : (iRow (.slice a n c) l).At w lo) : n = l.length := by
  rcases (iRow_owns.1 h).2 with ⟨e, h0⟩ | ⟨g, cap, cur, e, _⟩
  · simp only [Value.slice.injEq] at e
    omega
  · simp only [Value.slice.injEq] at e
    omega
set_option maxRecDepth 100000 in
theorem lent_ (w : World) (v : Value) (l : List Int) (h : IL w v l) (hl : l.length ≤ 1000000) :
    Calls Try.prog 8 #[v] w fun e w' => ∃ g q, e = .returned (.slice (some ⟨g, 0, none⟩) l.length q) ∧ LentI w.heap.size w' (.slice (some ⟨g, 0, none⟩) l.length q) l ∧ Below w.heap.size w w' := by
  obtain ⟨i0, hi, hz0, hz1, hz2⟩ := info_parts infoEInts
  have H := Lib.hid (copyInts_any w v (il l) h.elems (by rw [il_length]; exact hl))
  have HF := Lib.hid (fun (W : World) (a : Option Addr) (n c : Nat) (h9 : (tRow kInts (.slice a n c) (il l)).At W w.heap.size) => (⟨iRow_form (l := l) h9, iRow_owns.1 h9⟩ : n = l.length ∧ W.ownsRow w.heap.size 3 1 (.slice a n c) l.length (l.map (Value.int .i64))))
  obtain ⟨a0, c0, rfl, -⟩ := h
  go_enter Try.func8, Try.ntmps8
  go_wp2_with (first
    | (go_at_call 31; (with_reducible refine H.out.mono ?_); rintro e w1 ⟨p1, n1, q1, rfl, hrow, hb⟩; obtain ⟨rfl, hown⟩ := HF.out w1 p1 n1 q1 hrow; have HO := Lib.hid hown; have HB := Lib.hid hb; clear hown hb hrow)
    | (at_builtin; go_loud (refine wpList_app rfl _ _ 22 rfl w.heap.size 3 i0 (.int .i64 0) 1 8 Try.underlying22 hi hz0 hz1 hz2 rfl (by decide) (.slice p1 l.length q1) l.length (l.map (Value.int .i64)) rfl (owns_below HO.out (below_new _ _)) (some ⟨w1.heap.size, 0, none⟩) 1 1 [.int .i64 (-77)] rfl rfl (by intro A hA j u hu; cases hA; exact cells_new w1 [.int .i64 (-77)] 3 j u hu) (by intro e; cases e) (by intro u hu; simp at hu; subst hu; rfl) (by unfold maxLen; omega) (by omega) (thenBelow HB.out (below_new _ _)).size ?_; intro p2 q2 w2 hown2 hgrow2 hat2; have HB2 : Hid (Below w.heap.size w w2) := grown_below (thenBelow HB.out (below_new _ _)) hgrow2 (fun q e => (owned_at HO.out e).1); have HO2 := Lib.hid hown2; obtain ⟨g2, c2, e2, hc2, hg2, hg3⟩ := owns_form hown2 (by omega); obtain ⟨rfl, rfl⟩ : p2 = some ⟨g2, 0, none⟩ ∧ q2 = c2 := (by simpa using e2); have b1 : (l.length : Int) ≤ (q2 : Int) := (by omega); have b0 : (0 : Int) ≤ (l.length : Int) := (by omega); clear hown2 hgrow2 hat2 e2)))
  go_ret
  have hlen : q2 ≤ 9223372036854775807 := by
    rcases HO2.out.2 with ⟨e, _⟩ | ⟨g, cap, cur, e, _, _, _, h5, _⟩
    · cases e
    · simp only [Value.slice.injEq] at e
      have e3 : maxLen = 9223372036854775807 := by decide
      omega
  have key : ∀ (i : Nat) (u : Value), (l.map (Value.int .i64) ++ [.int .i64 (-77)])[i]? = some u → w2.cell? ⟨g2, i, none⟩ = some u := fun i u hu => by
    have := HO2.out.cells (show (Value.slice (some ⟨g2, 0, none⟩) (l.length + 1 : Nat) q2).ownBlock = some g2 from rfl) i u hu
    rwa [Go.WideShapes.add_plain, Nat.zero_add] at this
  refine ⟨g2, q2, by first | rfl | simp, ⟨g2, q2, rfl, hc2, hlen, hg2, hg3, fun i x hx => key i _ ?_, key l.length _ ?_⟩, HB2.out⟩
  · have hil := (List.getElem?_eq_some_iff.1 hx).1
    rw [List.getElem?_append_left (by simpa using hil), List.getElem?_map, hx]
    rfl
  · rw [List.getElem?_append_right (by simp)]
    simp
theorem same_ (w : World) (u v : Value) (l : List Int) (h1 : IL w u l) (h2 : IL w v l) :
    Calls Try.prog 24 #[u, v] w fun e w' => e = .returned (.bool true) ∧ Below w.heap.size w w' := sameInts_same w u v (il l) h1.elems h2.elems
set_option maxRecDepth 100000 in
theorem stays_ {lo : Nat} (w : World) (u v : Value) (l : List Int) (h1 : LentI lo w u l) (h2 : IL w v l) :
    Calls Try.prog 10 #[u, v] w fun e w' => e = .returned (.bool true) ∧ Below w.heap.size w w' := by
  have HH := Lib.hid (same_ w u v l h1.il h2)
  obtain ⟨a2, c2, rfl, _, _⟩ := h2
  obtain ⟨g, c, rfl, b1, b2, b0, b3, _, hm⟩ := h1
  have HB : Hid (∀ w', Below w.heap.size w w' → w'.cell? ⟨g, l.length, none⟩ = some (.int .i64 (-77))) := fun w' hb => (hb.cell (p := ⟨g, l.length, none⟩) b3).trans hm
  have k1 : (l.length : Int) + 1 ≤ (c : Int) := by omega
  have k2 : (0 : Int) ≤ (l.length : Int) + 1 := by omega
  have k3 : (l.length : Int) < (l.length : Int) + 1 := by omega
  have k4 : (0 : Int) ≤ (l.length : Int) := by omega
  have he : ((-77 : Int) == (-77 : Int)) = true := rfl
  clear hm
  go_enter Try.func10, Try.ntmps10
  go_wp2_with (go_at_call 24; (with_reducible refine HH.out.mono ?_); rintro e w1 ⟨rfl, hb⟩; have hcell := HB.out _ hb; have HB1 := Lib.hid hb; clear hb)
  go_ret
  exact ⟨by rfl, HB1.out⟩

end Go.Proofs.Ytoiaamijjcjjiaa.P7
