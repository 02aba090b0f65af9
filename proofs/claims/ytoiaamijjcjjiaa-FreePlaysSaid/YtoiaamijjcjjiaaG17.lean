/-
  The program's list and the document's side by side. (FreePlays.)
-/
import Derived.Test.YtoiaamijjcjjiaaG14
namespace Go.Proofs.Ytoiaamijjcjjiaa.P7
open Go Go.RowKit Go.Lib Go.Proofs.Ytoiaamijjcjjiaa.PK

theorem perm_mid {α : Type} (A B C : List α) : (A ++ (B ++ C)).Perm (B ++ (A ++ C)) := by
  rw [← List.append_assoc, ← List.append_assoc]
  exact List.Perm.append_right _ List.perm_append_comm
theorem Good.same {P : PM} {F G : FM} (h : Good P F) (h1 : F.pages = G.pages) (h2 : F.L = G.L) (h3 : F.W = G.W) : Good P G := by
  obtain ⟨lv, wv, p, L, W⟩ := F
  obtain ⟨lv', wv', p', L', W'⟩ := G
  cases h1
  cases h2
  cases h3
  exact ⟨⟨h.tie.rise, h.tie.fre, h.tie.pen⟩, h.pages, h.fine.lv⟩
/-- the program's list at r means F; the document's, at rr, is G; rows C beside them -/
def PS (a w : World) (r rr : Nat) (F G : FM) (C : List Row) : Prop := QF a (G.rows rr ++ C) r F w ∧ G.L.length ≤ 10000 ∧ G.W.length ≤ 10000
section
variable {a w w' : World} {r rr r2 : Nat} {F G : FM} {C : List Row}
theorem QF.perm {R R' : List Row} (h : QF a R r F w) (p : R.Perm R') : QF a R' r F w := by
  obtain ⟨P, h1, h2⟩ := h
  exact ⟨P, ⟨h1.rows.perm (p.append_left _), h1.few, h1.two⟩, h2⟩
theorem QF.sub {R R' : List Row} (h : QF a R r F w) (p : R'.Sublist R) : QF a R' r F w := by
  obtain ⟨P, h1, h2⟩ := h
  exact ⟨P, ⟨h1.rows.sub (p.append_left _), h1.few, h1.two⟩, h2⟩
theorem PS.over (h : PS a w r rr F G C) (hb : Below w.heap.size w w') : PS a w' r rr F G C := ⟨h.1.over hb, h.2⟩
theorem PS.below (h : PS a w r rr F G C) : Below a.heap.size a w := h.1.below
theorem PS.fine (h : PS a w r rr F G C) : Fine F := h.1.fine
theorem PS.row (h : PS a w r rr F G C) {x : Row} (hx : x ∈ C) : x.At w a.heap.size := h.1.row (List.mem_append_right _ hx)
theorem PS.with_ (h : PS a w r rr F G C) (hb : Below w.heap.size w w') {x : Row} (hx : x.At w' w.heap.size) : PS a w' r rr F G (x :: C) :=
  ⟨(h.1.with_ hb hx).perm (List.perm_middle (l₁ := G.rows rr)).symm, h.2⟩
theorem PS.perm {C' : List Row} (h : PS a w r rr F G C) (p : C.Perm C') : PS a w r rr F G C' := ⟨h.1.perm (p.append_left _), h.2⟩
theorem PS.sub {C' : List Row} (h : PS a w r rr F G C) (p : C'.Sublist C) : PS a w r rr F G C' := ⟨h.1.sub (p.append_left _), h.2⟩
theorem PS.same (h : PS a w r rr F G C) {F' : FM} (h1 : F.pages = F'.pages) (h2 : F.L = F'.L) (h3 : F.W = F'.W) : PS a w r rr F' G C := by
  obtain ⟨⟨P, k1, k2⟩, k3⟩ := h
  exact ⟨⟨P, k1, k2.same h1 h2 h3⟩, k3⟩
theorem PS.fat (h : PS a w r rr F G C) : ∃ P, Good P F ∧ P.S.length ≤ 10000 ∧ 2 ≤ P.pages ∧ FAt a (P.rows r ++ C) rr G w := by
  obtain ⟨⟨P, k1, k2⟩, k3, k4⟩ := h
  exact ⟨P, k2, k1.few, k1.two, k1.rows.perm (perm_mid _ _ _), k3, k4⟩
theorem PS.back {P : PM} (g : Good P F) (h1 : P.S.length ≤ 10000) (h2 : 2 ≤ P.pages) (h : FAt a (P.rows r ++ C) rr G w) : PS a w r rr F G C :=
  ⟨⟨P, ⟨h.rows.perm (perm_mid _ _ _), h1, h2⟩, g⟩, h.few, h.few2⟩
theorem PS.gcells (h : PS a w r rr F G C) : w.cell? ⟨rr, 0, none⟩ = some (.int .i64 G.pages) ∧ w.cell? ⟨rr, 1, none⟩ = some G.lv := by
  obtain ⟨P, _, _, _, h4⟩ := h.fat
  exact ⟨(h4.cell 0).trans rfl, (h4.cell 1).trans rfl⟩
theorem PS.glist (h : PS a w r rr F G C) : IL w G.lv G.L := by
  obtain ⟨P, _, _, _, h4⟩ := h.fat
  exact iRow_il h4.lrow (by have := h4.few; omega)
/-- the calls of the program's -/
theorem PS.xtake (h : PS a w r rr F G C) (n : Int) : Calls Try.prog 13 #[.pointer (some ⟨r, 0, none⟩), .int .i64 n] w fun e w' => e = .returned (.tuple #[.int .i64 (F.take n).2.1, .int .i64 (F.take n).2.2]) ∧ PS a w' r rr (F.take n).1 G C :=
  (h.1.take n).mono fun e w' ⟨q1, q2⟩ => ⟨q1, q2, h.2⟩
theorem PS.xgive (h : PS a w r rr F G C) (tx : Int) (v : Value) (ids : List Int) (HI : ∀ W, (∀ x ∈ C, Row.At W a.heap.size x) → Below a.heap.size a W → IL W v ids) (hl : ids.length ≤ 5000) :
    Calls Try.prog 15 #[.pointer (some ⟨r, 0, none⟩), .int .i64 tx, v] w fun e w' => e = .returned (.int .i64 ((F.give tx ids).length - F.W.length : Int)) ∧ PS a w' r rr { F with W := F.give tx ids } G C :=
  (h.1.give tx v ids (fun W hW hb => HI W (fun x hx => hW x (List.mem_append_right _ hx)) hb) hl).mono fun e w' ⟨q1, q2⟩ => ⟨q1, q2, h.2⟩
theorem PS.xrel (h : PS a w r rr F G C) (t : Int) : Calls Try.prog 17 #[.pointer (some ⟨r, 0, none⟩), .int .i64 t] w fun e w' => e = .returned (.int .i64 (relN t F.W : Nat)) ∧ PS a w' r rr { F with L := F.relL t, W := relW t F.W } G C :=
  (h.1.rel t).mono fun e w' ⟨q1, q2⟩ => ⟨q1, q2, h.2⟩
/-- what the program's tells: one more row -/
theorem PS.xfree (h : PS a w r rr F G C) : Calls Try.prog 20 #[.pointer (some ⟨r, 0, none⟩)] w fun e w' => ∃ b c, e = .returned (.slice b F.L.length c) ∧ PS a w' r rr F G (iRow (.slice b F.L.length c) F.L :: C) :=
  h.1.free_.mono fun e w' ⟨u, q1, q2, q3⟩ => by
    obtain ⟨b, c, rfl⟩ := iRow_slice q2
    exact ⟨b, c, q1, h.with_ q3 q2⟩
theorem PS.xpend (h : PS a w r rr F G C) (tx : Int) : Calls Try.prog 21 #[.pointer (some ⟨r, 0, none⟩), .int .i64 tx] w fun e w' => ∃ b c, e = .returned (.slice b (F.pend tx).length c) ∧ PS a w' r rr F G (iRow (.slice b (F.pend tx).length c) (F.pend tx) :: C) :=
  (h.1.pend_ tx).mono fun e w' ⟨u, q1, q2, q3⟩ => by
    obtain ⟨b, c, rfl⟩ := iRow_slice q2
    exact ⟨b, c, q1, h.with_ q3 q2⟩
theorem PS.xall (h : PS a w r rr F G C) : Calls Try.prog 22 #[.pointer (some ⟨r, 0, none⟩)] w fun e w' => ∃ b c, e = .returned (.slice b F.all.length c) ∧ PS a w' r rr F G (iRow (.slice b F.all.length c) F.all :: C) :=
  h.1.all_.mono fun e w' ⟨u, q1, q2, q3⟩ => by
    obtain ⟨b, c, rfl⟩ := iRow_slice q2
    exact ⟨b, c, q1, h.with_ q3 q2⟩
/-- the calls of the document's -/
theorem PS.rtake (h : PS a w r rr F G C) (hG : Fine G) (n : Int) : Calls Try.prog 14 #[.pointer (some ⟨rr, 0, none⟩), .int .i64 n] w fun e w' => ∃ lv', e = .returned (.tuple #[.int .i64 (G.take n).2.1, .int .i64 (G.take n).2.2]) ∧ PS a w' r rr F { (G.take n).1 with lv := lv' } C := by
  obtain ⟨P, g, k1, k2, k3⟩ := h.fat
  have hl := fine_len hG
  refine (k3.take_ n (by omega) (by have := hG.two; omega) hG.most (fun x hx => by have := hG.low x hx; have := hG.most; omega)).mono ?_
  rintro e w' ⟨lv', q1, q2⟩
  exact ⟨lv', q1, PS.back g k1 k2 q2⟩
theorem PS.rgive (h : PS a w r rr F G C) (hG : Fine G) (tx : Int) (v : Value) (ids : List Int) (hi : IL a v ids) (hl : ids.length ≤ 5000) : Calls Try.prog 16 #[.pointer (some ⟨rr, 0, none⟩), .int .i64 tx, v] w fun e w' => ∃ wv', e = .returned (.int .i64 ((G.give tx ids).length - G.W.length : Int)) ∧ PS a w' r rr F { G with wv := wv', W := G.give tx ids } C := by
  obtain ⟨P, g, k1, k2, k3⟩ := h.fat
  have hl2 := fine_len hG
  refine (k3.give_ tx v ids hi (by omega) (by omega)).mono ?_
  rintro e w' ⟨wv', q1, q2⟩
  exact ⟨wv', q1, PS.back g k1 k2 q2⟩
theorem PS.rrel (h : PS a w r rr F G C) (hG : Fine G) (t : Int) : Calls Try.prog 18 #[.pointer (some ⟨rr, 0, none⟩), .int .i64 t] w fun e w' => ∃ lv' wv', e = .returned (.int .i64 (relN t G.W : Nat)) ∧ PS a w' r rr F { G with lv := lv', wv := wv', L := G.relL t, W := relW t G.W } C := by
  obtain ⟨P, g, k1, k2, k3⟩ := h.fat
  have hl2 := fine_len hG
  refine (k3.rel_ t (by omega)).mono ?_
  rintro e w' ⟨lv', wv', q1, q2⟩
  exact ⟨lv', wv', q1, PS.back g k1 k2 q2⟩
theorem PS.rpend (h : PS a w r rr F G C) (tx : Int) : Calls Try.prog 25 #[.pointer (some ⟨rr, 0, none⟩), .int .i64 tx] w fun e w' => ∃ b c, e = .returned (.slice b (G.pend tx).length c) ∧ IL w' (.slice b (G.pend tx).length c) (G.pend tx) ∧ Below w.heap.size w w' := by
  obtain ⟨P, g, k1, k2, k3⟩ := h.fat
  refine (k3.pend_ tx).mono ?_
  rintro e w' ⟨u, rfl, q2, q3⟩
  obtain ⟨b, c, rfl⟩ := iRow_slice q2
  have h1 := fold_len (fun o p => if p.1 = tx then putS o p.2 else o) (fun o p => by split; exact put_len _ _; omega) G.W []
  have h2 := k3.few2
  have h3 : (G.pend tx).length ≤ 10000 := by unfold FM.pend; simp only [List.length_nil] at h1; omega
  exact ⟨b, c, rfl, iRow_il q2 (by omega), q3⟩
theorem PS.rall (h : PS a w r rr F G C) : Calls Try.prog 26 #[.pointer (some ⟨rr, 0, none⟩)] w fun e w' => ∃ b c, e = .returned (.slice b G.all.length c) ∧ IL w' (.slice b G.all.length c) G.all ∧ Below w.heap.size w w' := by
  obtain ⟨P, g, k1, k2, k3⟩ := h.fat
  refine (k3.all_).mono ?_
  rintro e w' ⟨u, rfl, q2, q3⟩
  obtain ⟨b, c, rfl⟩ := iRow_slice q2
  have h1 := fold_len (fun o p => putS o p.2) (fun o p => put_len o p.2) G.W G.L
  have h2 := k3.few2
  have h4 := k3.few
  have h3 : G.all.length ≤ 20000 := by unfold FM.all; omega
  exact ⟨b, c, rfl, iRow_il q2 (by omega), q3⟩
/-- both lists have the same ids -/
abbrev SS (a w : World) (r rr : Nat) (G : FM) (C : List Row) : Prop := PS a w r rr G G C
theorem SS.of {G' : FM} (h : PS a w r rr F G' C) (h1 : F.pages = G'.pages) (h2 : F.L = G'.L) (h3 : F.W = G'.W) : SS a w r rr G' C := h.same h1 h2 h3
/-- Take -/
theorem SS.take1 (h : SS a w r rr G C) (n : Int) : Calls Try.prog 13 #[.pointer (some ⟨r, 0, none⟩), .int .i64 n] w fun e w' => e = .returned (.tuple #[.int .i64 (G.take n).2.1, .int .i64 (G.take n).2.2]) ∧ PS a w' r rr (G.take n).1 G C := PS.xtake h n
theorem PS.take2 {n : Int} (h : PS a w r rr (G.take n).1 G C) (hG : Fine G) : Calls Try.prog 14 #[.pointer (some ⟨rr, 0, none⟩), .int .i64 n] w fun e w' => e = .returned (.tuple #[.int .i64 (G.take n).2.1, .int .i64 (G.take n).2.2]) ∧ ∃ G', SS a w' r rr G' C := by
  refine (h.rtake hG n).mono ?_
  rintro e w' ⟨lv', rfl, q⟩
  exact ⟨rfl, _, SS.of q rfl rfl rfl⟩
/-- Give -/
theorem SS.give1 (h : SS a w r rr G C) (tx : Int) (v : Value) (ids : List Int) (HI : ∀ W, (∀ x ∈ C, Row.At W a.heap.size x) → Below a.heap.size a W → IL W v ids) (hl : ids.length ≤ 5000) :
    Calls Try.prog 15 #[.pointer (some ⟨r, 0, none⟩), .int .i64 tx, v] w fun e w' => e = .returned (.int .i64 ((G.give tx ids).length - G.W.length : Int)) ∧ PS a w' r rr { G with W := G.give tx ids } G C := PS.xgive h tx v ids HI hl
theorem PS.give2 {tx : Int} {ids : List Int} (h : PS a w r rr { G with W := G.give tx ids } G C) (hG : Fine G) (v : Value) (hi : IL a v ids) (hl : ids.length ≤ 5000) : Calls Try.prog 16 #[.pointer (some ⟨rr, 0, none⟩), .int .i64 tx, v] w fun e w' => e = .returned (.int .i64 ((G.give tx ids).length - G.W.length : Int)) ∧ ∃ G', SS a w' r rr G' C := by
  refine (h.rgive hG tx v ids hi hl).mono ?_
  rintro e w' ⟨wv', rfl, q⟩
  exact ⟨rfl, _, SS.of q rfl rfl rfl⟩
/-- Release -/
theorem SS.rel1 (h : SS a w r rr G C) (t : Int) : Calls Try.prog 17 #[.pointer (some ⟨r, 0, none⟩), .int .i64 t] w fun e w' => e = .returned (.int .i64 (relN t G.W : Nat)) ∧ PS a w' r rr { G with L := G.relL t, W := relW t G.W } G C := PS.xrel h t
theorem PS.rel2 {t : Int} (h : PS a w r rr { G with L := G.relL t, W := relW t G.W } G C) (hG : Fine G) : Calls Try.prog 18 #[.pointer (some ⟨rr, 0, none⟩), .int .i64 t] w fun e w' => e = .returned (.int .i64 (relN t G.W : Nat)) ∧ ∃ G', SS a w' r rr G' C := by
  refine (h.rrel hG t).mono ?_
  rintro e w' ⟨lv', wv', rfl, q⟩
  exact ⟨rfl, _, SS.of q rfl rfl rfl⟩
/-- Copy: the old one goes on by itself, and is left -/
def CP (a w : World) (r rr r2 : Nat) (G : FM) (C : List Row) : Prop := (∃ F, Q2 a (G.rows rr ++ C) r F r2 G w) ∧ G.L.length ≤ 10000 ∧ G.W.length ≤ 10000
theorem SS.copy (h : SS a w r rr G C) : Calls Try.prog 19 #[.pointer (some ⟨r, 0, none⟩)] w fun e w' => ∃ r2, e = .returned (.pointer (some ⟨r2, 0, none⟩)) ∧ CP a w' r rr r2 G C := by
  refine (h.1.copy).mono ?_
  rintro e w' ⟨r2, rfl, q⟩
  exact ⟨r2, rfl, ⟨G, q.swap⟩, h.2⟩
theorem CP.take (h : CP a w r rr r2 G C) (n : Int) : Calls Try.prog 13 #[.pointer (some ⟨r, 0, none⟩), .int .i64 n] w fun e w' => ∃ x y, e = .returned (.tuple #[.int .i64 x, .int .i64 y]) ∧ CP a w' r rr r2 G C := by
  obtain ⟨⟨F, h1⟩, h2⟩ := h
  refine (h1.take n).mono ?_
  rintro e w' ⟨rfl, q⟩
  exact ⟨_, _, rfl, ⟨_, q⟩, h2⟩
theorem Q2.with_ {R : List Row} {F2 : FM} (h : Q2 a R r F r2 F2 w) (hb : Below w.heap.size w w') {x : Row} (hx : x.At w' w.heap.size) : Q2 a (x :: R) r F r2 F2 w' := by
  obtain ⟨P2, g2, k2, t2, h1⟩ := h
  exact ⟨P2, g2, k2, t2, (h1.with_ hb hx).perm (List.perm_middle (l₁ := P2.rows r2)).symm⟩
theorem Q2.sub {R R' : List Row} {F2 : FM} (h : Q2 a R r F r2 F2 w) (p : R'.Sublist R) : Q2 a R' r F r2 F2 w := by
  obtain ⟨P2, g2, k2, t2, h1⟩ := h
  exact ⟨P2, g2, k2, t2, h1.sub (p.append_left _)⟩
theorem CP.give (h : CP a w r rr r2 G C) (tx x1 x2 x3 x4 : Int) : Calls Try.prog 15 #[.pointer (some ⟨r, 0, none⟩), .int .i64 tx, .slice (some ⟨w.heap.size, 0, none⟩) 4 4] (w.alloc (.cells #[.int .i64 x1, .int .i64 x2, .int .i64 x3, .int .i64 x4] 3)) fun e w' => ∃ z, e = .returned (.int .i64 z) ∧ CP a w' r rr r2 G C := by
  obtain ⟨⟨F, h1⟩, h2⟩ := h
  have hrow : (iRow (.slice (some ⟨w.heap.size, 0, none⟩) 4 4) [x1, x2, x3, x4]).At (w.alloc (.cells #[.int .i64 x1, .int .i64 x2, .int .i64 x3, .int .i64 x4] 3)) w.heap.size :=
    ⟨rfl, .inr ⟨w.heap.size, 4, #[.int .i64 x1, .int .i64 x2, .int .i64 x3, .int .i64 x4], rfl, Nat.le_refl _, new_at w _ _, Nat.le_refl _, by unfold maxLen; omega, rfl, rfl⟩⟩
  have h3 := h1.with_ (below_new w (.cells #[.int .i64 x1, .int .i64 x2, .int .i64 x3, .int .i64 x4] 3)) hrow
  refine (h3.give tx _ [x1, x2, x3, x4] (fun W hW _ => iRow_il (hW _ List.mem_cons_self) (by show 4 ≤ _; omega)) (by show 4 ≤ _; omega)).mono ?_
  rintro e w' ⟨rfl, q⟩
  exact ⟨_, rfl, ⟨_, q.sub (List.sublist_cons_self _ _)⟩, h2⟩
theorem CP.rel (h : CP a w r rr r2 G C) (t : Int) : Calls Try.prog 17 #[.pointer (some ⟨r, 0, none⟩), .int .i64 t] w fun e w' => ∃ z, e = .returned (.int .i64 z) ∧ SS a w' r2 rr G C := by
  obtain ⟨⟨F, h1⟩, h2⟩ := h
  refine (h1.rel t).mono ?_
  rintro e w' ⟨rfl, q⟩
  exact ⟨_, rfl, q.swap.one, h2⟩
end

end Go.Proofs.Ytoiaamijjcjjiaa.P7
