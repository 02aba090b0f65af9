/-
  slices.Insert of one element, slices.BinarySearchFunc at rows of pages. (The program's list of free ids.)
-/
import Derived.Test.YtoiaamijjcjjiaaG2
namespace Go.Proofs.Ytoiaamijjcjjiaa.P7
open Go Go.RowKit Go.Lib Go.Proofs.Ytoiaamijjcjjiaa.PK

theorem gb_of_below {w w' : World} (h : Below w.heap.size w w') (b : Option Nat) : w.grownBy w' b := ⟨h.os, h.tape, h.output, h.size, fun k hk _ => h.block k hk⟩
theorem below_setCells {a w : World} {g : Nat} (h : Below a.heap.size a w) (hg : a.heap.size ≤ g) (o : Nat) (vs : List Value) : Below a.heap.size a (w.setCells g o vs) := by
  have k := gb_setCells g vs o w
  exact ⟨k.os.trans h.os, k.tape.trans h.tape, k.output.trans h.output, Nat.le_trans h.size k.size, fun j hj => (k.block j (Nat.lt_of_lt_of_le hj h.size) (fun e => by cases e; omega)).trans (h.block j hj)⟩
theorem ins_any (w : World) (lo vb i : Nat) (sv : Value) (S : List Sp) (x : Sp) (h : (sRow sv S).At w lo) (hlo : lo ≤ w.heap.size) (hi : i ≤ S.length) (hn : S.length ≤ 100000)
    (hx : w.heap[vb]? = some (.cells (spCells x).toArray 70 (0, 0))) (hne : sv.ownBlock ≠ some vb) :
    Calls Try.prog 82 #[sv, .int .i64 i, .slice (some ⟨vb, 0, none⟩) 1 1] w fun e w' => ∃ v', e = .returned v' ∧ (sRow v' (S.take i ++ [x] ++ S.drop i)).At w' lo ∧ w.grownBy w' sv.ownBlock ∧ (v'.ownBlock = sv.ownBlock ∨ ∀ g, v'.ownBlock = some g → w.heap.size ≤ g) := by
  have h1v : ∀ u ∈ spCells x, u.oneCell' = true := fun u hu => by
    simp only [spCells, List.mem_cons, List.not_mem_nil, or_false] at hu
    rcases hu with rfl | rfl | rfl <;> rfl
  have hlenF := spFlat_len S
  have hlenR : (S.take i ++ [x] ++ S.drop i).length = S.length + 1 := by simp; omega
  have hflR : spFlat (S.take i ++ [x] ++ S.drop i) = spFlat (S.take i) ++ spCells x ++ spFlat (S.drop i) := by
    rw [spFlat_app, spFlat_app]; rfl
  obtain ⟨s1, s2⟩ := spFlat_split S i hi
  have hl1 : (spFlat (S.take i)).length = i * 3 := by rw [spFlat_len, List.length_take, Nat.min_eq_left hi]
  have hl2 : (spFlat (S.drop i)).length = (S.length - i) * 3 := by rw [spFlat_len, List.length_drop]
  by_cases he : i = S.length
  · subst he
    refine (ins_end w lo vb S.length sv (spFlat S) (spCells x) h hlo hn rfl hx h1v).mono ?_
    rintro e w' ⟨v', rfl, h2, h3, h4⟩
    refine ⟨v', rfl, ?_, h3, h4.imp id fun q g hg => by rw [q] at hg; cases hg; exact Nat.le_refl _⟩
    unfold sRow Row.At
    simp only
    rw [hlenR, hflR, List.take_length, List.drop_length]
    show w'.ownsRow lo 70 3 v' (S.length + 1) (spFlat S ++ spCells x ++ [])
    rw [List.append_nil]
    exact h2
  · have h0 := h
    rcases h.slice with ⟨_, q, _⟩ | ⟨g, cap, e, hb, h4, h5⟩
    · have : S.length = 0 := q
      omega
    · have e' : sv = .slice (some ⟨g, 0, none⟩) S.length cap := e
      have hgb : sv.ownBlock = some g := hb
      subst e'
      have hvg : vb ≠ g := fun q => hne (by rw [hgb, q])
      have hcell : ∀ j u, (spFlat S)[j]? = some u → w.cell? ⟨g, j, none⟩ = some u := fun j u hj => h0.cell hb hj
      have hcs : ∀ j u, (spFlat (S.drop i))[j]? = some u → w.cell? ⟨g, i * 3 + j, none⟩ = some u := fun j u hj => by
        rw [← s2, List.getElem?_drop] at hj
        exact hcell _ _ hj
      obtain ⟨cur, hcur, hcs0⟩ : ∃ cur, w.heap[g]? = some (.cells cur 70 (0, 0)) ∧ cur.size ≠ 0 := by
        rcases h0.2 with ⟨q, _⟩ | ⟨g', cap', cur, q1, _, q3, q4, _, q6, _⟩
        · cases q
        · have q1' : Value.slice (some ⟨g, 0, none⟩) S.length cap = .slice (some ⟨g', 0, none⟩) S.length cap' := q1
          simp only [Value.slice.injEq, Option.some.injEq, Addr.mk.injEq] at q1'
          obtain ⟨⟨rfl, _⟩, _, rfl⟩ := q1'
          have q6' : cur.size = cap * 3 := q6
          have q4' : S.length ≤ cap := q4
          exact ⟨cur, q3, by omega⟩
      have h4' : S.length ≤ cap := h4
      by_cases hroom : S.length + 1 ≤ cap
      · obtain ⟨ys, hyl, r0⟩ := row_more h0 hroom
        have hrl : (spFlat S ++ ys).length = (S.length + 1) * 3 := by rw [List.length_append, hlenF, hyl]; omega
        refine (ins_room w g i S.length cap vb (spFlat (S.drop i)) (spCells x) (by omega) hroom h5 hvg hl2 rfl hcs (fun j hj => ?_) hx cur hcur hcs0 (spFlat_one _) h1v).mono ?_
        · exact ⟨by rw [r0.cell (g := g) rfl (List.getElem?_eq_getElem (show j < (spFlat S ++ ys).length by omega))]; rfl, r0.free (g := g) rfl j⟩
        · rintro e w' ⟨rfl, q, rfl⟩
          have r1 := row_setCells (g := g) (spFlat (S.drop i)) ((i + 1) * 3) (row_drew r0 q) rfl (by show _ ≤ (S.length + 1) * 3; omega)
          have r2 := row_setCells (g := g) (spCells x) (i * 3) r1 rfl (by show i * 3 + 3 ≤ (S.length + 1) * 3; omega)
          refine ⟨_, rfl, ?_, gb_trans (gb_trans (gb_drew w q _) (gb_setCells g (spFlat (S.drop i)) ((i + 1) * 3) (w.drewN q))) (gb_setCells g (spCells x) (i * 3) _), .inl rfl⟩
          have key : setL (setL (spFlat S ++ ys) ((i + 1) * 3) (spFlat (S.drop i))) (i * 3) (spCells x) = spFlat (S.take i ++ [x] ++ S.drop i) := by
            have e1 := setL_eq (spFlat (S.drop i)) (spFlat S ++ ys) ((i + 1) * 3) (by omega)
            rw [List.drop_of_length_le (show (spFlat S ++ ys).length ≤ (i + 1) * 3 + (spFlat (S.drop i)).length by omega), List.append_nil] at e1
            have ht : ((spFlat S ++ ys).take ((i + 1) * 3)).length = i * 3 + 3 := by rw [List.length_take]; omega
            rw [e1, setL_eq _ _ _ (by rw [List.length_append, ht]; show i * 3 + 3 ≤ _; omega), hflR]
            show List.take (i * 3) _ ++ spCells x ++ List.drop (i * 3 + 3) _ = _
            rw [← ht, List.drop_left, List.take_append_of_le_length (by rw [ht]; omega), List.take_take, Nat.min_eq_left (by omega), List.take_append_of_le_length (by omega), s1]
          unfold sRow
          rw [hlenR, ← key]
          exact r2
      · obtain rfl : cap = S.length := by omega
        have hgw := lt_of_block hcur
        refine (ins_grow w g i S.length vb (spFlat (S.take i)) (spFlat (S.drop i)) (spCells x) (by omega) hn (lt_of_block hx) hgw hl1 hl2 rfl (fun j u hj => ?_) hcs (fun j u hj => ?_) (spFlat_one _) h1v).mono ?_
        · rw [← s1] at hj
          have hlt := (List.getElem?_eq_some_iff.1 hj).1
          rw [List.length_take] at hlt
          rw [List.getElem?_take_of_lt (by omega)] at hj
          exact hcell _ _ hj
        · rw [cell_at hx]; simpa using hj
        · rintro e w' ⟨G, ROW, q, k, rfl, hG1, hG2, hR1, hR2, rfl⟩
          have hR1' : ROW.toList.length = G * 3 := by rw [Array.length_toList]; exact hR1
          have hrl : (ROW.toList.take ((S.length + 1) * 3)).length = (S.length + 1) * 3 := by rw [List.length_take, hR1']; omega
          have r0 : Row.At ((w.drewN q).alloc (.cells ROW 70)) w.heap.size ⟨.slice (some ⟨w.heap.size, 0, none⟩) (S.length + 1) G, 70, 3, S.length + 1, ROW.toList.take ((S.length + 1) * 3)⟩ :=
            ⟨hrl,
              .inr ⟨w.heap.size, G, ROW, rfl, Nat.le_refl _, new_at (w.drewN q) ROW 70, hG1, hG2, hR1, rfl⟩⟩
          have r1 := row_setCells (g := w.heap.size) (spCells x) (i * 3) r0 rfl (by show i * 3 + 3 ≤ (S.length + 1) * 3; omega)
          have r2 := row_setCells (g := w.heap.size) (spFlat (S.drop i)) ((i + 1) * 3) (row_drew r1 k) rfl (by show _ ≤ (S.length + 1) * 3; omega)
          have hbw : Below w.heap.size w ((w.drewN q).alloc (.cells ROW 70)) := ⟨rfl, rfl, rfl, by simp, fun k hk => heap_alloc_old (w.drewN q) _ hk⟩
          have hb1 := below_setCells hbw (Nat.le_refl _) (i * 3) (spCells x)
          have hb2 : Below w.heap.size w (((((w.drewN q).alloc (.cells ROW 70)).setCells w.heap.size (i * 3) (spCells x))).drewN k) := ⟨hb1.os, hb1.tape, hb1.output, hb1.size, hb1.block⟩
          refine ⟨_, rfl, ?_, gb_of_below (below_setCells hb2 (Nat.le_refl _) ((i + 1) * 3) (spFlat (S.drop i))) _, .inr fun g' hg' => by cases hg'; exact Nat.le_refl _⟩
          have key : setL (setL (ROW.toList.take ((S.length + 1) * 3)) (i * 3) (spCells x)) ((i + 1) * 3) (spFlat (S.drop i)) = spFlat (S.take i ++ [x] ++ S.drop i) := by
            have e1 := setL_eq (spCells x) (ROW.toList.take ((S.length + 1) * 3)) (i * 3) (by rw [hrl]; show i * 3 + 3 ≤ _; omega)
            have ha : (ROW.toList.take ((S.length + 1) * 3)).take (i * 3) = spFlat (S.take i) := by
              rw [List.take_take, Nat.min_eq_left (by omega)]
              apply List.ext_getElem?
              intro j
              by_cases hj : j < i * 3
              · rw [List.getElem?_take_of_lt hj, Array.getElem?_toList]; exact hR2 j hj
              · rw [List.getElem?_eq_none (by rw [List.length_take]; omega), List.getElem?_eq_none (by omega)]
            rw [ha] at e1
            have hl : (spFlat (S.take i) ++ spCells x).length = (i + 1) * 3 := by rw [List.length_append, hl1]; show i * 3 + 3 = _; omega
            obtain ⟨RR, hRR⟩ : ∃ RR, RR = List.drop (i * 3 + (spCells x).length) (ROW.toList.take ((S.length + 1) * 3)) := ⟨_, rfl⟩
            have hRl2 : RR.length = (S.length - i) * 3 := by rw [hRR, List.length_drop, hrl]; show (S.length + 1) * 3 - (i * 3 + 3) = _; omega
            rw [← hRR] at e1
            have hLl : (spFlat (S.take i) ++ spCells x ++ RR).length = (i + 1) * 3 + (S.length - i) * 3 := by rw [List.length_append, hl, hRl2]
            have e2 := setL_eq (spFlat (S.drop i)) (spFlat (S.take i) ++ spCells x ++ RR) ((i + 1) * 3) (by omega)
            rw [List.drop_of_length_le (show (spFlat (S.take i) ++ spCells x ++ RR).length ≤ (i + 1) * 3 + (spFlat (S.drop i)).length by omega), List.append_nil] at e2
            rw [e1, e2, hflR, ← hl, List.take_left]
          unfold sRow
          rw [hlenR, ← key]
          exact ⟨r2.1, (owns_lo r2 hlo).2⟩

def cmpI (a b : Int) : Int := if a < b then -1 else if b < a then 1 else 0
theorem nan_any (w : World) (a : Int) : Calls Try.prog 100 #[.int .i64 a] w fun e w' => e = .returned (.bool false) ∧ w = w' := by
  go_enter Try.func100, Try.ntmps100
  go_wp2
  go_ret
  exact ⟨rfl, rfl⟩
theorem cmp_any (w : World) (a b : Int) : Calls Try.prog 81 #[.int .i64 a, .int .i64 b] w fun e w' => e = .returned (.int .i64 (cmpI a b)) ∧ w = w' := by
  have HN := Lib.hid (fun x => nan_any w x)
  unfold cmpI
  by_cases h1 : a < b
  · rw [if_pos h1]
    go_enter Try.func81, Try.ntmps81
    go_wp2_with (go_at_call 100; (with_reducible refine (HN.out _).mono ?_); rintro e w2 ⟨rfl, rfl⟩)
    go_ret
    exact ⟨rfl, rfl⟩
  · rw [if_neg h1]
    by_cases h2 : b < a
    · rw [if_pos h2]
      go_enter Try.func81, Try.ntmps81
      go_wp2_with (go_at_call 100; (with_reducible refine (HN.out _).mono ?_); rintro e w2 ⟨rfl, rfl⟩)
      go_ret
      exact ⟨rfl, rfl⟩
    · rw [if_neg h2]
      go_enter Try.func81, Try.ntmps81
      go_wp2_with (go_at_call 100; (with_reducible refine (HN.out _).mono ?_); rintro e w2 ⟨rfl, rfl⟩)
      go_ret
      exact ⟨rfl, rfl⟩
theorem giveC_any (w : World) (s : Sp) (id : Int) : Calls Try.prog 80 #[spVal s, .int .i64 id] w fun e w' => e = .returned (.int .i64 (cmpI s.id id)) ∧ Below w.heap.size w w' := by
  have HC := Lib.hid (fun W => cmp_any W s.id id)
  go_enter Try.func80, Try.ntmps80
  go_wp2_with (go_at_call 81; (with_reducible refine (HC.out _).mono ?_); rintro e w2 ⟨rfl, rfl⟩)
  go_ret
  exact ⟨rfl, below_new w _⟩

end Go.Proofs.Ytoiaamijjcjjiaa.P7
