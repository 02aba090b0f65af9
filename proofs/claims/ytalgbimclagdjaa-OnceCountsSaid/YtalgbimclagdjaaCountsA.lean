/-
  Counts and pins by every calls (the statement OnceCounts): the law's own list of pins, and what each call does to the state.
-/
import Derived.Test.YtalgbimclagdjaaArgs3
import Derived.Laws.OwnMore
namespace Go.Proofs.Ytalgbimclagdjaa.P3
open Go Go.RowKit Go.Lib Go.Maps Go.ChangeMaps Go.MapKept

/-- the law's list of pins, as cells -/
def rowOf : PinL → List Value
  | [] => []
  | p :: r => .int .i64 p.2 :: .int .i64 p.1 :: rowOf r
theorem rowOf_len (l : PinL) : (rowOf l).length = l.length * 2 := by
  induction l with
  | nil => rfl
  | cons p r ih => simp only [rowOf, List.length_cons, ih]; omega
theorem rowOf_app (a b : PinL) : rowOf (a ++ b) = rowOf a ++ rowOf b := by
  induction a with
  | nil => rfl
  | cons p r ih => simp only [List.cons_append, rowOf, ih]
theorem rowOf_at (l : PinL) : ∀ j, j < l.length → (rowOf l)[j * 2]? = some (.int .i64 (l.getD j (0, 0)).2) ∧ (rowOf l)[j * 2 + 1]? = some (.int .i64 (l.getD j (0, 0)).1) := by
  induction l with
  | nil => intro j h; simp at h
  | cons p r ih =>
    intro j h
    cases j with
    | zero => exact ⟨rfl, rfl⟩
    | succ j =>
      have h' : j < r.length := by simpa using h
      obtain ⟨h1, h2⟩ := ih j h'
      refine ⟨?_, ?_⟩
      · rw [show (j + 1) * 2 = j * 2 + 1 + 1 by omega]
        simpa [rowOf] using h1
      · rw [show (j + 1) * 2 + 1 = j * 2 + 1 + 1 + 1 by omega]
        simpa [rowOf] using h2

theorem take_step (l : PinL) (j : Nat) (h : j < l.length) : l.take (j + 1) = l.take j ++ [l.getD j (0, 0)] := by
  rw [List.take_succ_eq_append_getElem h, List.getD_eq_getElem?_getD, List.getElem?_eq_getElem h]
  rfl
theorem without_step (id : Int) (l : PinL) (p : Int × Int) : without id (l ++ [p]) = without id l ++ (if p.2 = id then [] else [p]) := by
  unfold without
  rw [List.filter_append]
  by_cases h : p.2 = id <;> simp [h]
theorem least_step (l : PinL) (p : Int × Int) : least (l ++ [p]) = if l = [] then p.1 else if p.1 < least l then p.1 else least l := by
  cases l with
  | nil => rfl
  | cons q r =>
    rw [if_neg (by simp)]
    show List.foldl _ _ (r ++ [p]) = _
    rw [List.foldl_append]
    rfl

theorem row_keep {w w' : World} {base base' : Nat} {v : Value} {n : Nat} {xs : List Value} (h : w.ownsRow base 68 2 v n xs) (hb : base' ≤ base) (H : ∀ g c, base ≤ g → w.heap[g]? = some (.cells c 68 (0, 0)) → w'.heap[g]? = some (.cells c 68 (0, 0))) : w'.ownsRow base' 68 2 v n xs := by
  refine ⟨h.1, ?_⟩
  rcases h.2 with hn | ⟨g, cap, cur, e, hbg, hg, rest⟩
  · exact .inl hn
  · exact .inr ⟨g, cap, cur, e, Nat.le_trans hb hbg, H g cur hbg hg, rest⟩
theorem row_slice {w : World} {base : Nat} {v : Value} {r : PinL} (h : w.ownsRow base 68 2 v r.length (rowOf r)) : ∃ a m c, v = .slice a m c ∧ Hid (m = r.length) := by
  rcases h.2 with ⟨rfl, e⟩ | ⟨g, cap, cur, rfl, _⟩
  · exact ⟨_, _, _, rfl, e.symm⟩
  · exact ⟨_, _, _, rfl, rfl⟩
/-- where the row has an element, it has a block -/
theorem row_some {w : World} {base : Nat} {a : Option Addr} {m c : Nat} {r : PinL} (h : w.ownsRow base 68 2 (.slice a m c) r.length (rowOf r)) (h0 : 0 < r.length) :
    ∃ g, a = some ⟨g, 0, none⟩ ∧ base ≤ g ∧ g < w.heap.size ∧ ∀ j, j < r.length → w.cell? ⟨g, j * 2, none⟩ = some (.int .i64 (r.getD j (0, 0)).2) ∧ w.cell? ⟨g, j * 2 + 1, none⟩ = some (.int .i64 (r.getD j (0, 0)).1) := by
  rcases h.2 with ⟨_, e⟩ | ⟨g, cap, cur, e, hbg, hg, rest⟩
  · omega
  · simp only [Value.slice.injEq] at e
    obtain ⟨rfl, rfl, rfl⟩ := e
    refine ⟨g, rfl, hbg, lt_of_block hg, fun j hj => ?_⟩
    obtain ⟨a1, a2⟩ := rowOf_at r j hj
    rw [h.cellAt _ (by omega), h.cellAt _ (by omega)]
    exact ⟨a1, a2⟩
theorem cell_two_new (w : World) (x y : Value) (t : TypeId) : ∀ j u, [x, y][j]? = some u → (w.alloc (.cells #[x, y] t)).cell? ((⟨w.heap.size, 0, none⟩ : Addr).add j) = some u := by
  intro j u h
  rw [Go.WideShapes.add_plain, cell_at (heap_alloc_new w _), Nat.zero_add]
  simpa using h

/-- the state: n is counted, the pins l are held, N were given, the law's own list v reads as r -/
structure KSt (w : World) (bc bp : Nat) (n : Int) (N : Nat) (l r : PinL) (v : Value) (wr : World) : Prop where
  ct : CountAt wr bc n
  pn : Pinned3 bp wr bp N l
  row : wr.ownsRow (bp + 1) 68 2 v r.length (rowOf r)
  bel : Below w.heap.size w wr
  lo : w.heap.size ≤ bc
  lp : bc < bp

section
variable {w : World} {bc bp N : Nat} {n : Int} {l r : PinL} {v : Value} {wr w' : World}
theorem KSt.below (h : KSt w bc bp n N l r v wr) (hb : Below wr.heap.size wr w') : KSt w bc bp n N l r v w' :=
  { h with ct := h.ct.below hb, pn := h.pn.below hb, row := row_keep h.row (Nat.le_refl _) (fun _ _ _ hg => old_below hg hb), bel := thenBelow h.bel hb }
theorem KSt.count (h : KSt w bc bp n N l r v wr) {m : Int} (hc : CountAt w' bc m) (ho : Only bc wr w') : KSt w bc bp m N l r v w' :=
  { h with ct := hc, pn := h.pn.only ho h.ct (by decide) (by decide), row := row_keep h.row (Nat.le_refl _) (fun _ _ hb hg => ho.keep hg (by have := h.lp; omega)), bel := Only.new h.bel ho h.lo }
theorem KSt.pins (h : KSt w bc bp n N l r v wr) {N' : Nat} {l' : PinL} (hp : Pinned3 bp w' bp N' l') (hf : FrP bp bp wr w') : KSt w bc bp n N' l' r v w' :=
  { h with ct := hf.keep h.ct (by decide) (by have := h.lp; omega), pn := hp, row := row_keep h.row (Nat.le_refl _) (fun _ _ hb hg => hf.keep hg (by decide) (by omega)), bel := FrP.below h.bel hf (by have := h.lo; have := h.lp; omega) }
/-- the law's list grows -/
theorem KSt.grown (h : KSt w bc bp n N l r v wr) {r' : PinL} {v' : Value} (hg : wr.grownBy w' v.ownBlock) (hr : w'.ownsRow (bp + 1) 68 2 v' r'.length (rowOf r')) : KSt w bc bp n N l r' v' w' := by
  have hlo := h.lo
  have hlp := h.lp
  rcases h.row.2 with ⟨rfl, _⟩ | ⟨g, cap, cur, rfl, hbg, hgg, _⟩
  · have hb : Below wr.heap.size wr w' := ⟨hg.os, hg.tape, hg.output, hg.size, fun k hk => hg.block k hk (by simp [Value.ownBlock])⟩
    exact { h with ct := h.ct.below hb, pn := h.pn.below hb, row := hr, bel := thenBelow h.bel hb }
  · have ho : Only g wr w' := ⟨hg.os, hg.tape, hg.output, hg.size, fun k hk hne => hg.block k hk (by simpa [Value.ownBlock] using hne)⟩
    exact { h with ct := h.ct.only ho (by omega), pn := h.pn.only ho hgg (by decide) (by decide), row := hr, bel := Only.new h.bel ho (by omega) }
theorem KSt.grown_keep (h : KSt w bc bp n N l r v wr) (hg : wr.grownBy w' v.ownBlock) {k : Nat} {c : Array Value} {t : TypeId} {f : Nat × Nat} (hk : wr.heap[k]? = some (.cells c t f)) (ht : t ≠ 68) : w'.heap[k]? = some (.cells c t f) := by
  rw [hg.block k (lt_of_block hk) ?_]
  · exact hk
  · rcases h.row.2 with ⟨rfl, _⟩ | ⟨g, cap, cur, rfl, hbg, hgg, _⟩
    · simp [Value.ownBlock]
    · intro e
      simp only [Value.ownBlock, Option.some.injEq] at e
      subst e
      rw [hgg] at hk
      simp only [Option.some.injEq, Obj.cells.injEq] at hk
      exact ht hk.2.1.symm
theorem KSt.room (h : KSt w bc bp n N l r v wr) : bp + 1 ≤ wr.heap.size := by
  obtain ⟨cb, hp⟩ := h.pn.blk
  exact lt_of_block hp
/-- the law's list is another -/
theorem KSt.other (h : KSt w bc bp n N l r v wr) {r' : PinL} {v' : Value} (hb : Below wr.heap.size wr w') (hr : w'.ownsRow wr.heap.size 68 2 v' r'.length (rowOf r')) : KSt w bc bp n N l r' v' w' := by
  obtain ⟨cb, hp⟩ := h.pn.blk
  have := lt_of_block hp
  exact { h.below hb with row := row_keep hr (by omega) (fun _ _ _ hg => hg) }

theorem k_add (h : KSt w bc bp n N l r v wr) (d : Int) : Calls Try.prog 17 #[.pointer (some ⟨bc, 0, none⟩), .int .i64 d] wr fun e w' => e = .returned (.int .i64 (wrap64 (n + d))) ∧ KSt w bc bp (wrap64 (n + d)) N l r v w' :=
  (countAdd wr bc n d h.ct).mono fun _ _ ⟨he, hc, ho⟩ => ⟨he, h.count hc ho⟩
theorem k_most (h : KSt w bc bp n N l r v wr) (d : Int) : Calls Try.prog 18 #[.pointer (some ⟨bc, 0, none⟩), .int .i64 d] wr fun e w' => e = .returned (.int .i64 (max n d)) ∧ KSt w bc bp (max n d) N l r v w' :=
  (countMost wr bc n d h.ct).mono fun _ _ ⟨he, hc, ho⟩ => ⟨he, h.count hc ho⟩
theorem k_take_yes (h : KSt w bc bp n N l r v wr) (d : Int) (hd : n < d) : Calls Try.prog 19 #[.pointer (some ⟨bc, 0, none⟩), .int .i64 d] wr fun e w' => e = .returned (.bool true) ∧ KSt w bc bp (wrap64 (n + 1)) N l r v w' :=
  (take_yes wr bc n d h.ct hd).mono fun _ _ ⟨he, hc, ho⟩ => ⟨he, h.count hc ho⟩
theorem k_take_no (h : KSt w bc bp n N l r v wr) (d : Int) (hd : ¬ n < d) : Calls Try.prog 19 #[.pointer (some ⟨bc, 0, none⟩), .int .i64 d] wr fun e w' => e = .returned (.bool false) ∧ KSt w bc bp n N l r v w' :=
  (take_no wr bc n d h.ct hd).mono fun _ _ ⟨he, hc, ho⟩ => ⟨he, h.count hc ho⟩
theorem k_now (h : KSt w bc bp n N l r v wr) : Calls Try.prog 23 #[.pointer (some ⟨bc, 0, none⟩)] wr fun e w' => e = .returned (.int .i64 n) ∧ wr = w' :=
  countNow wr bc n h.ct
theorem k_pin (h : KSt w bc bp n N l r v wr) (hN : N ≤ 100) (d : Int) : Calls Try.prog 20 #[.pointer (some ⟨bp, 0, none⟩), .int .i64 d] wr fun e w' => e = .returned (.int .i64 ((N : Int) + 1)) ∧ KSt w bc bp n (N + 1) (l ++ [(d, (N : Int) + 1)]) r v w' :=
  (pins_pin wr h.pn (by omega) d).mono fun _ _ ⟨he, hp, hf⟩ => ⟨he, h.pins hp hf⟩
theorem k_drop (h : KSt w bc bp n N l r v wr) (d : Int) (hw : (Lit.int .i64 d).wf = true) : Calls Try.prog 21 #[.pointer (some ⟨bp, 0, none⟩), .int .i64 d] wr fun e w' => e = .returned (.bool (decide (((without d l).length : Int) < (l.length : Int)))) ∧ KSt w bc bp n N (without d l) r v w' :=
  (pins_drop wr h.pn d hw).mono fun _ _ ⟨he, hp, hf⟩ => ⟨by rw [he]; simp only [Int.ofNat_lt], h.pins hp hf⟩
theorem k_least (h : KSt w bc bp n N l r v wr) : Calls Try.prog 22 #[.pointer (some ⟨bp, 0, none⟩)] wr fun e w' => e = .returned (.tuple #[.int .i64 (least l), .bool (decide (0 < l.length))]) ∧ KSt w bc bp n N l r v w' :=
  (pins_least wr h.pn).mono fun _ _ ⟨he, hp, hf⟩ => ⟨he, h.pins hp hf⟩
theorem k_len (h : KSt w bc bp n N l r v wr) : Calls Try.prog 24 #[.pointer (some ⟨bp, 0, none⟩)] wr fun e w' => e = .returned (.int .i64 l.length) ∧ KSt w bc bp n N l r v w' :=
  (pins_len wr h.pn).mono fun _ _ ⟨he, hp, hf⟩ => ⟨he, h.pins hp hf⟩
end

theorem infoLawPin : (Try.prog.info? 68).map (fun i => (i.zero.map Value.cells, i.size, i.bytes)) = some (some #[.int .i64 0, .int .i64 0], 2, 16) := by kernel_rfl

end Go.Proofs.Ytalgbimclagdjaa.P3
