/-
  The book beside both lists; lists that were lent. (FreePlays.)
-/
import Derived.Test.YtoiaamijjcjjiaaG17
import Derived.Test.YtoiaamijjcjjiaaKAInts
import Derived.Test.YtoiaamijjcjjiaaF7
namespace Go.Proofs.Ytoiaamijjcjjiaa.P7
open Go Go.RowKit Go.Lib Go.Proofs.Ytoiaamijjcjjiaa.PK

/-- the rows of a book that keeps at most n lists, among them T -/
def BkC (b n : Nat) (T BC : List Row) : Prop := ∃ bs tv cv us cs ls, BC = bl b bs 49 :: kRows kInts tv cv us cs ls ls ∧ bs[2]? = some tv ∧ bs[3]? = some cv ∧ us.length = ls.length ∧ cs.length = ls.length ∧ ls.length ≤ n ∧
  (∀ l ∈ ls, l.length ≤ 4000 ∧ Oks kInts l) ∧ NilInts bs ∧ ∀ x ∈ T, x ∈ rowsOf kInts us ls
section
variable {a w w' : World} {r rr b n : Nat} {G : FM} {C X BC T : List Row}
theorem BkC.less (h : BkC b n T BC) {T' : List Row} (p : ∀ x ∈ T', x ∈ T) : BkC b n T' BC := by
  obtain ⟨bs, tv, cv, us, cs, ls, h1, h2, h3, h4, h5, h6, h7, h8, h9⟩ := h
  exact ⟨bs, tv, cv, us, cs, ls, h1, h2, h3, h4, h5, h6, h7, h8, fun x hx => h9 x (p x hx)⟩
theorem BkC.mem (h : BkC b n T BC) {x : Row} (hx : x ∈ T) : x ∈ BC := by
  obtain ⟨bs, tv, cv, us, cs, ls, rfl, _, _, _, _, _, _, _, h9⟩ := h
  simp [kRows, h9 x hx]
theorem ss_keep {u : Value} {l : List Int} (h : SS a w r rr G C) (hp : C.Perm (iRow u l :: (X ++ BC))) (hB : BkC b n T BC) (hn : n < 240) (hl : l.length ≤ 4000) (hu : ∃ (q : Option Addr) (m c : Nat), u = .slice q m c) :
    Calls Try.prog 23 #[.pointer (some ⟨b, 0, none⟩), u] w fun e w' => e = .returned (.tuple #[]) ∧ ∃ BC', SS a w' r rr G (X ++ BC') ∧ BkC b (n + 1) (iRow u l :: T) BC' := by
  obtain ⟨⟨P, k1, k2⟩, k3⟩ := h
  obtain ⟨bs, tv, cv, us, cs, ls, rfl, c0, c1, h4, h5, h6, h7, h8, h9⟩ := hB
  have hrows : Rws a ((iRow u l :: (P.rows r ++ (G.rows rr ++ X))) ++ (bl b bs 49 :: kRows kInts tv cv us cs ls ls)) w := by
    refine k1.rows.perm ?_
    refine ((hp.append_left _).append_left _).trans ?_
    refine (List.Perm.append_left _ (List.perm_middle)).trans ?_
    refine List.perm_middle.trans ?_
    simp only [List.cons_append, List.append_assoc]
    exact List.Perm.refl _
  refine (bookInts_any a w _ b bs tv cv u us cs ls (il l) ⟨hrows, c0, c1, h4, h5, rfl, by omega, h7, h7⟩ (by omega) (by rw [il_length]; exact hl) (il_ok l) hu).mono ?_
  rintro e w' ⟨rfl, _, tv', cv', c, hk⟩
  refine ⟨rfl, _, ⟨⟨P, ⟨?_, k1.few, k1.two⟩, k2⟩, k3⟩, _, tv', cv', us ++ [u], cs ++ [c], ls ++ [il l], rfl, hk.c0, hk.c1, hk.ul, hk.cl, by rw [List.length_append]; show ls.length + 1 ≤ n + 1; omega, hk.short, h8.set tv' cv', fun x hx => ?_⟩
  · have hr := hk.rows
    rw [List.append_assoc, List.append_assoc] at hr
    exact hr
  · rw [rowsOf_snoc h4]
    rcases List.mem_cons.1 hx with rfl | q
    · exact List.mem_append_right _ (List.mem_singleton.2 rfl)
    · exact List.mem_append_left _ (h9 x q)
theorem ss_apart (h : SS a w r rr G BC) (hB : BkC b n T BC) (hn : n ≤ 240) : Calls Try.prog 28 #[.pointer (some ⟨b, 0, none⟩)] w fun e w' => e = .returned (.bool true) ∧ Below a.heap.size a w' := by
  obtain ⟨⟨P, k1, k2⟩, k3⟩ := h
  obtain ⟨bs, tv, cv, us, cs, ls, rfl, c0, c1, h4, h5, h6, h7, h8, h9⟩ := hB
  have hrows : Rws a ([] ++ (bl b bs 49 :: kRows kInts tv cv us cs ls ls)) w := by
    refine k1.rows.sub ?_
    exact (List.sublist_append_right (G.rows rr) _).trans (List.sublist_append_right (P.rows r) _)
  exact apartInts_any a w b bs tv cv us cs ls ⟨hrows, c0, c1, h4, h5, rfl, by omega, h7, h7⟩ h8
/-- a list that was kept is read -/
theorem ss_read {u : Value} {l : List Int} (h : SS a w r rr G BC) (hB : BkC b n T BC) (hx : iRow u l ∈ T) (hl : l.length ≤ 4000) : IL w u l := iRow_il (h.row (hB.mem hx)) (by omega)
/-- a new book -/
def book0 : List Value := List.replicate 18 (.slice none 0 0)
theorem ss_book (h : SS a w r rr G []) : ∃ BC, SS a (w.alloc (.cells book0.toArray 49)) r rr G BC ∧ BkC w.heap.size 0 [] BC := by
  have h1 := PS.with_ h (Below.refl _ _) (x := vRow kInts (.slice none 0 0) []) (World.ownsRow_nil _ _ _ _)
  have h2 := h1.with_ (Below.refl _ _) (x := vRow kInts (.slice none 0 0) []) (World.ownsRow_nil _ _ _ _)
  have h3 := h2.with_ (below_new w (.cells book0.toArray 49)) (x := bl w.heap.size book0 49) (Row.ofBlock w book0 49 (by decide))
  refine ⟨_, h3, book0, .slice none 0 0, .slice none 0 0, [], [], [], rfl, rfl, rfl, rfl, rfl, Nat.le_refl _, fun _ q => (by cases q), fun j h1 _ _ => ?_, fun _ q => (by cases q)⟩
  unfold book0
  rw [List.getElem?_replicate, if_pos h1]
end

/-- a list that is lent, as a row -/
theorem lent_of_row {w : World} {lo g q : Nat} {l : List Int} (h : (iRow (.slice (some ⟨g, 0, none⟩) (l.length + 1) q) (l ++ [-77])).At w lo) : LentI lo w (.slice (some ⟨g, 0, none⟩) l.length q) l := by
  have h' := iRow_owns.1 h
  have hb : (Value.slice (some ⟨g, 0, none⟩) (l.length + 1) q).ownBlock = some g := rfl
  have key : ∀ (i : Nat) (x : Int), (l ++ [-77])[i]? = some x → w.cell? ⟨g, i, none⟩ = some (.int .i64 x) := fun i x hi => by
    have := h'.cells hb i (.int .i64 x) (by rw [List.getElem?_map, hi]; rfl)
    rwa [Go.WideShapes.add_plain, Nat.zero_add] at this
  obtain ⟨h1, h2⟩ := h'.lt g hb
  rcases h'.2 with ⟨e, _⟩ | ⟨g', cap, cur, e, _, _, h4, h5, _⟩
  · cases e
  · simp only [Value.slice.injEq, Option.some.injEq, Addr.mk.injEq] at e
    obtain ⟨_, _, rfl⟩ := e
    rw [List.length_append] at h4
    unfold maxLen at h5
    exact ⟨g, q, rfl, h4, by omega, h1, h2, fun i x hi => key i x (by rw [List.getElem?_append_left (List.getElem?_eq_some_iff.1 hi).1]; exact hi), key l.length (-77) (by simp)⟩
set_option maxRecDepth 100000 in
theorem lent_row (w : World) (v : Value) (l : List Int) (h : IL w v l) (hl : l.length ≤ 1000000) :
    Calls Try.prog 8 #[v] w fun e w' => ∃ g q, e = .returned (.slice (some ⟨g, 0, none⟩) l.length q) ∧ (iRow (.slice (some ⟨g, 0, none⟩) (l.length + 1) q) (l ++ [-77])).At w' w.heap.size ∧ Below w.heap.size w w' := by
  obtain ⟨i0, hi, hz0, hz1, hz2⟩ := info_parts infoEInts
  have H := Lib.hid (copyInts_any w v (il l) h.elems (by rw [il_length]; exact hl))
  have HF := Lib.hid (fun (W : World) (a : Option Addr) (n c : Nat) (h9 : (tRow kInts (.slice a n c) (il l)).At W w.heap.size) => (⟨iRow_form (l := l) h9, iRow_owns.1 h9⟩ : n = l.length ∧ W.ownsRow w.heap.size 3 1 (.slice a n c) l.length (l.map (Value.int .i64))))
  obtain ⟨a0, c0, rfl, -⟩ := h
  go_enter Try.func8, Try.ntmps8
  go_wp2_with (first
    | (go_at_call 31; (with_reducible refine H.out.mono ?_); rintro e w1 ⟨p1, n1, q1, rfl, hrow, hb⟩; obtain ⟨rfl, hown⟩ := HF.out w1 p1 n1 q1 hrow; have HO := Lib.hid hown; have HB := Lib.hid hb; clear hown hb hrow)
    | (at_builtin; refine wpList_app rfl _ _ 22 rfl w.heap.size 3 i0 (.int .i64 0) 1 8 Try.underlying22 hi hz0 hz1 hz2 rfl (by decide) (.slice p1 l.length q1) l.length (l.map (Value.int .i64)) rfl (owns_below HO.out (below_new _ _)) (some ⟨w1.heap.size, 0, none⟩) 1 1 [.int .i64 (-77)] rfl rfl (by intro A hA j u hu; cases hA; exact cells_new w1 [.int .i64 (-77)] 3 j u hu) (by intro e; cases e) (by intro u hu; simp at hu; subst hu; rfl) (by unfold maxLen; omega) (by omega) (thenBelow HB.out (below_new _ _)).size ?_; intro p2 q2 w2 hown2 hgrow2 hat2; have HB2 : Hid (Below w.heap.size w w2) := grown_below (thenBelow HB.out (below_new _ _)) hgrow2 (fun q e => (owned_at HO.out e).1); have HO2 := Lib.hid hown2; obtain ⟨g2, c2, e2, hc2, hg2, hg3⟩ := owns_form hown2 (by omega); obtain ⟨rfl, rfl⟩ : p2 = some ⟨g2, 0, none⟩ ∧ q2 = c2 := (by simpa using e2); have b1 : (l.length : Int) ≤ (q2 : Int) := (by omega); have b0 : (0 : Int) ≤ (l.length : Int) := (by omega); clear hown2 hgrow2 hat2 e2))
  go_ret
  refine ⟨g2, q2, by first | rfl | simp, iRow_owns.2 ?_, HB2.out⟩
  rw [List.length_append, List.map_append]
  exact HO2.out
theorem give_nil (w : World) (tx : Int) (v : Value) (ids : List Int) (hi : IL w v ids) (h2 : ∀ x ∈ ids, 2 ≤ x) : Calls Try.prog 15 #[.pointer none, .int .i64 tx, v] w fun e w' => e = .returned (.int .i64 0) ∧ w = w' := by
  obtain ⟨ia, ic, rfl, _, hil, hc⟩ := hi
  have HG := Lib.hid (fun x (hx : 2 ≤ x) => give1_nil w tx x hx)
  have H2 := Lib.hid h2
  clear h2
  go_enter Try.func15, Try.ntmps15
  go_wp2
  go_loop [7, 12] (fun vn vi => ∃ k : Nat, k ≤ ids.length ∧ vi = .int .i64 k ∧ vn = .int .i64 0) (fun _ vi => ids.length - (RowKit.intOf vi).toNat)
  case atStart => exact ⟨0, Nat.zero_le _, rfl, rfl⟩
  case round =>
    obtain ⟨k, hk, rfl, rfl⟩ := hrel
    by_cases hlt : k < ids.length
    · obtain ⟨b, off, rfl, hb, hcc⟩ := hc (by omega)
      obtain ⟨x, hx⟩ : ∃ x, ids[k]? = some x := ⟨_, List.getElem?_eq_getElem hlt⟩
      have x1 := hcc k x hx
      have HGx := Lib.hid (HG.out x (H2.out x (List.mem_of_getElem? hx)))
      have kk : (k : Int) < (ids.length : Int) := by omega
      have kk0 : (0 : Int) ≤ (k : Int) := by omega
      clear hcc hc hx
      go_wp2_with (go_at_call 36; (with_reducible refine HGx.out.mono ?_); rintro e w2 ⟨rfl, rfl⟩)
      go_round
      case rel => exact ⟨k + 1, by omega, by go_num, rfl⟩
      case measure => simp [RowKit.intOf]; omega
    · obtain rfl : k = ids.length := by omega
      clear hc
      go_wp2
      go_ret
      exact ⟨rfl, rfl⟩

end Go.Proofs.Ytoiaamijjcjjiaa.P7
