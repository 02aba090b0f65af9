/-
  FreePlays: what the walk has between its calls.
-/
import Derived.Test.YtoiaamijjcjjiaaG18
import Derived.Test.YtoiaamijjcjjiaaG15
import Derived.Test.YtoiaamijjcjjiaaOps7
namespace Go.Proofs.Ytoiaamijjcjjiaa.P7
open Go Go.RowKit Go.Lib Go.Proofs.Ytoiaamijjcjjiaa.PK

theorem IL.at_ {w : World} {b : Option Addr} {n c : Nat} {l : List Int} (h : IL w (.slice b n c) l) : (∀ A, b = some A → ∀ (j : Nat) (u : Value), (l.map (Value.int .i64))[j]? = some u → w.cell? (A.add j) = some u) ∧ (b = none → l.length = 0 ∧ c = 0) := by
  obtain ⟨b', c', e, h1, h2, h3⟩ := h
  simp only [Value.slice.injEq] at e
  obtain ⟨rfl, rfl, rfl⟩ := e
  refine ⟨fun A hA j u hu => ?_, fun hn => ⟨?_, h1 hn⟩⟩
  · rw [List.getElem?_map] at hu
    obtain ⟨x, hx, rfl⟩ := Option.map_eq_some_iff.1 hu
    obtain ⟨g, off, e2, _, h5⟩ := h3 (by have := (List.getElem?_eq_some_iff.1 hx).1; omega)
    rw [hA] at e2
    obtain rfl := Option.some.inj e2
    rw [Go.WideShapes.add_plain]
    exact h5 j x hx
  · refine Nat.eq_zero_of_not_pos fun h0 => ?_
    obtain ⟨g, off, e2, _⟩ := h3 h0
    rw [hn] at e2
    cases e2
def h0 (p : Int) (L : List Int) : FM := ⟨.slice none 0 0, .slice none 0 0, p, L, []⟩
section
variable {a w w' W W5 : World} {r rr b n : Nat} {G : FM} {C X BC T : List Row} {p : Int} {L : List Int} {o : OpI}
/-- the document's list is made behind the program's -/
theorem ss_start {v' : Value} (h : QF a [] r (h0 p L) W) (hb : Below W.heap.size W W5) (hrow : (iRow v' L).At W5 W.heap.size) : SS a (W5.alloc (.cells #[.int .i64 p, v', .slice none 0 0] 35)) r W5.heap.size ⟨v', .slice none 0 0, p, L, []⟩ [] := by
  have hl := fine_len h.fine
  have h1 := h.with_ hb hrow
  have h2 := h1.with_ (Below.refl _ _) (x := wRow (.slice none 0 0) []) (World.ownsRow_nil _ _ _ _)
  have h3 := h2.with_ (below_new W5 (.cells #[.int .i64 p, v', .slice none 0 0] 35)) (x := bl W5.heap.size [.int .i64 p, v', .slice none 0 0] 35) (Row.ofBlock W5 [.int .i64 p, v', .slice none 0 0] 35 (by show 3 ≤ maxLen; unfold maxLen; omega))
  have h4 := h3.perm (List.Perm.cons _ (List.Perm.swap (iRow v' L) (wRow (.slice none 0 0) []) []))
  have h5 : PS a (W5.alloc (.cells #[.int .i64 p, v', .slice none 0 0] 35)) r W5.heap.size (h0 p L) ⟨v', .slice none 0 0, p, L, []⟩ [] := by
    refine ⟨?_, ?_, Nat.zero_le _⟩
    · rw [List.append_nil]
      exact h4
    · show L.length ≤ 10000
      have hl' : L.length + 0 ≤ 4000 := hl
      omega
  exact h5.same rfl rfl rfl
/-- ahead of the loop -/
def St (w W : World) (r rr b : Nat) : Prop := ∃ a G BC, Below w.heap.size w a ∧ SS a W r rr G BC ∧ BkC b 0 [] BC
theorem st_of (hb : Below w.heap.size w a) (h : SS a W r rr G []) : St w (W.alloc (.cells book0.toArray 49)) r rr W.heap.size := by
  obtain ⟨BC, h1, h2⟩ := ss_book h
  exact ⟨a, G, BC, hb, h1, h2⟩
/-- an act, in a block of its own -/
abbrev opCells (o : OpI) : List Value := [.int .i64 o.kind, .int .i64 o.A, .slice o.a o.L.length o.c]
def opRow (ob : Nat) (o : OpI) : Row := bl ob (opCells o) 51
theorem op_cells {lo ob : Nat} (h : (opRow ob o).At w lo) : w.cell? ⟨ob, 0, none⟩ = some (.int .i64 o.kind) ∧ w.cell? ⟨ob, 1, none⟩ = some (.int .i64 o.A) ∧ w.cell? ⟨ob, 2, none⟩ = some (.slice o.a o.L.length o.c) := by
  have hb := bl_heap h
  exact ⟨by rw [cell_at hb]; rfl, by rw [cell_at hb]; rfl, by rw [cell_at hb]; rfl⟩
theorem ss_op (h : SS a w r rr G C) (o : OpI) : SS a (w.alloc (.cells #[.int .i64 o.kind, .int .i64 o.A, .slice o.a o.L.length o.c] 51)) r rr G (opRow w.heap.size o :: C) :=
  PS.with_ h (below_new w (.cells #[.int .i64 o.kind, .int .i64 o.A, .slice o.a o.L.length o.c] 51)) (Row.ofBlock w (opCells o) 51 (by show 3 ≤ maxLen; unfold maxLen; omega))
/-- .. and given up -/
theorem ss_drop {x : Row} (h : SS a w r rr G (x :: C)) : SS a w r rr G C := PS.sub h (List.sublist_cons_self _ _)
/-- how long the lists are -/
theorem pend_le (hG : Fine G) (tx : Int) : (G.pend tx).length ≤ 4000 := by
  have h1 := hG.pend_len tx
  have h2 := List.length_filter_le (fun p : Int × Int => decide (p.1 = tx)) G.W
  have h3 := fine_len hG
  omega
theorem all_le (hG : Fine G) : G.all.length ≤ 4000 := by
  have h1 := hG.all_len
  have h3 := fine_len hG
  omega
theorem L_le (hG : Fine G) : G.L.length ≤ 4000 := by
  have h3 := fine_len hG
  omega
/-- what the program's list tells is kept, one list behind the other -/
theorem keep1 {u1 u2 u3 : Row} {v : Value} {l : List Int} (e : u1 = iRow v l) (h : SS a w r rr G (u3 :: u2 :: u1 :: BC)) (hB : BkC b n T BC) (hn : n < 240) (hl : l.length ≤ 4000) (hu : ∃ (q : Option Addr) (m c : Nat), v = .slice q m c) :
    Calls Try.prog 23 #[.pointer (some ⟨b, 0, none⟩), v] w fun e w' => e = .returned (.tuple #[]) ∧ ∃ BC', SS a w' r rr G (u3 :: u2 :: BC') ∧ BkC b (n + 1) (u1 :: T) BC' := by
  subst e
  exact ss_keep (X := [u3, u2]) h (List.perm_middle (l₁ := [u3, u2])) hB hn hl hu
theorem keep2 {u2 u3 : Row} {v : Value} {l : List Int} (e : u2 = iRow v l) (h : SS a w r rr G (u3 :: u2 :: BC)) (hB : BkC b n T BC) (hn : n < 240) (hl : l.length ≤ 4000) (hu : ∃ (q : Option Addr) (m c : Nat), v = .slice q m c) :
    Calls Try.prog 23 #[.pointer (some ⟨b, 0, none⟩), v] w fun e w' => e = .returned (.tuple #[]) ∧ ∃ BC', SS a w' r rr G (u3 :: BC') ∧ BkC b (n + 1) (u2 :: T) BC' := by
  subst e
  exact ss_keep (X := [u3]) h (List.perm_middle (l₁ := [u3])) hB hn hl hu
theorem keep3 {u3 : Row} {v : Value} {l : List Int} (e : u3 = iRow v l) (h : SS a w r rr G (u3 :: BC)) (hB : BkC b n T BC) (hn : n < 240) (hl : l.length ≤ 4000) (hu : ∃ (q : Option Addr) (m c : Nat), v = .slice q m c) :
    Calls Try.prog 23 #[.pointer (some ⟨b, 0, none⟩), v] w fun e w' => e = .returned (.tuple #[]) ∧ ∃ BC', SS a w' r rr G BC' ∧ BkC b (n + 1) (u3 :: T) BC' := by
  subst e
  exact ss_keep (X := []) h (List.Perm.refl _) hB hn hl hu
/-- a list of the act's is lent -/
theorem ss_lent {ob : Nat} (h : SS a w r rr G (opRow ob o :: C)) (hi : IL a o.v o.L) (hl : o.L.length ≤ 60) :
    Calls Try.prog 8 #[.slice o.a o.L.length o.c] w fun e w' => ∃ g q, e = .returned (.slice (some ⟨g, 0, none⟩) o.L.length q) ∧ SS a w' r rr G (iRow (.slice (some ⟨g, 0, none⟩) (o.L.length + 1) q) (o.L ++ [-77]) :: opRow ob o :: C) := by
  refine (lent_row w _ o.L (hi.below h.below) (by omega)).mono ?_
  rintro e w' ⟨g, q, rfl, h1, h2⟩
  exact ⟨g, q, rfl, PS.with_ h h2 h1⟩
theorem ss_give1 {g q : Nat} (h : SS a w r rr G (iRow (.slice (some ⟨g, 0, none⟩) (o.L.length + 1) q) (o.L ++ [-77]) :: C)) (hl : o.L.length ≤ 60) :
    Calls Try.prog 15 #[.pointer (some ⟨r, 0, none⟩), .int .i64 o.A, .slice (some ⟨g, 0, none⟩) o.L.length q] w fun e w' => e = .returned (.int .i64 ((G.give o.A o.L).length - G.W.length : Int)) ∧ PS a w' r rr { G with W := G.give o.A o.L } G (iRow (.slice (some ⟨g, 0, none⟩) (o.L.length + 1) q) (o.L ++ [-77]) :: C) :=
  SS.give1 h o.A _ o.L (fun W hW _ => (lent_of_row (hW _ List.mem_cons_self)).il) (by omega)
theorem ss_stays {g q : Nat} (h : SS a w r rr G (iRow (.slice (some ⟨g, 0, none⟩) (o.L.length + 1) q) (o.L ++ [-77]) :: C)) (hi : IL a o.v o.L) :
    Calls Try.prog 10 #[.slice (some ⟨g, 0, none⟩) o.L.length q, .slice o.a o.L.length o.c] w fun e w' => e = .returned (.bool true) ∧ Below w.heap.size w w' :=
  stays_ w _ _ o.L (lent_of_row (PS.row h List.mem_cons_self)) (hi.below h.below)
/-- the acts, with what they tell in letters -/
theorem pt1 {T' : FM} {n x y : Int} (e0 : G.take n = (T', x, y)) (h : SS a w r rr G C) : Calls Try.prog 13 #[.pointer (some ⟨r, 0, none⟩), .int .i64 n] w fun e w' => e = .returned (.tuple #[.int .i64 x, .int .i64 y]) ∧ PS a w' r rr T' G C := by
  have h9 := SS.take1 h n
  rw [e0] at h9
  exact h9
theorem pt2 {T' : FM} {n x y : Int} (e0 : G.take n = (T', x, y)) (hG : Fine G) (h : PS a w r rr T' G C) : Calls Try.prog 14 #[.pointer (some ⟨rr, 0, none⟩), .int .i64 n] w fun e w' => e = .returned (.tuple #[.int .i64 x, .int .i64 y]) ∧ ∃ G', SS a w' r rr G' C := by
  have h9 := PS.take2 (n := n) (G := G) (by rw [e0]; exact h) hG
  rw [e0] at h9
  exact h9
theorem pg1 {g q : Nat} {z : Int} (hz : z = (G.give o.A o.L).length - G.W.length) (h : SS a w r rr G (iRow (.slice (some ⟨g, 0, none⟩) (o.L.length + 1) q) (o.L ++ [-77]) :: C)) (hl : o.L.length ≤ 60) :
    Calls Try.prog 15 #[.pointer (some ⟨r, 0, none⟩), .int .i64 o.A, .slice (some ⟨g, 0, none⟩) o.L.length q] w fun e w' => e = .returned (.int .i64 z) ∧ PS a w' r rr { G with W := G.give o.A o.L } G (iRow (.slice (some ⟨g, 0, none⟩) (o.L.length + 1) q) (o.L ++ [-77]) :: C) := by
  rw [hz]
  exact ss_give1 h hl
theorem pg2 {z : Int} (hz : z = (G.give o.A o.L).length - G.W.length) (hG : Fine G) (h : PS a w r rr { G with W := G.give o.A o.L } G C) (hi : IL a o.v o.L) (hl : o.L.length ≤ 60) :
    Calls Try.prog 16 #[.pointer (some ⟨rr, 0, none⟩), .int .i64 o.A, .slice o.a o.L.length o.c] w fun e w' => e = .returned (.int .i64 z) ∧ ∃ G', SS a w' r rr G' C := by
  rw [hz]
  exact h.give2 hG o.v hi (by omega)
theorem pr1 {t z : Int} (hz : z = (relN t G.W : Nat)) (h : SS a w r rr G C) : Calls Try.prog 17 #[.pointer (some ⟨r, 0, none⟩), .int .i64 t] w fun e w' => e = .returned (.int .i64 z) ∧ PS a w' r rr { G with L := G.relL t, W := relW t G.W } G C := by
  rw [hz]
  exact SS.rel1 h t
theorem pr2 {t z : Int} (hz : z = (relN t G.W : Nat)) (hG : Fine G) (h : PS a w r rr { G with L := G.relL t, W := relW t G.W } G C) : Calls Try.prog 18 #[.pointer (some ⟨rr, 0, none⟩), .int .i64 t] w fun e w' => e = .returned (.int .i64 z) ∧ ∃ G', SS a w' r rr G' C := by
  rw [hz]
  exact h.rel2 hG
theorem op_at {F : FM} {ob : Nat} (h : PS a w r rr F G (opRow ob o :: C)) : w.cell? ⟨ob, 0, none⟩ = some (.int .i64 o.kind) ∧ w.cell? ⟨ob, 1, none⟩ = some (.int .i64 o.A) ∧ w.cell? ⟨ob, 2, none⟩ = some (.slice o.a o.L.length o.c) := op_cells (h.row List.mem_cons_self)
theorem op_at2 {F : FM} {ob : Nat} {x : Row} (h : PS a w r rr F G (x :: opRow ob o :: C)) : w.cell? ⟨ob, 0, none⟩ = some (.int .i64 o.kind) ∧ w.cell? ⟨ob, 1, none⟩ = some (.int .i64 o.A) ∧ w.cell? ⟨ob, 2, none⟩ = some (.slice o.a o.L.length o.c) := op_cells (h.row (List.mem_cons_of_mem _ List.mem_cons_self))
/-- what Load tells, in letters -/
def LQ (a w : World) (p : Int) (L : List Int) (d : Bool) (A : Option Addr) (y : Int) : Prop := (d = true → ∃ r, A = some ⟨r, 0, none⟩ ∧ y = 0 ∧ QF a [] r (h0 p L) w) ∧ (d = false → A = none ∧ y = 1) ∧ Below a.heap.size a w
theorem load_l (v : Value) (hi : IL a v L) {d : Bool} (hd : d = true ↔ Rises p L) : Calls Try.prog 9 #[.int .i64 p, v] a fun e w' => ∃ A y, e = .returned (.tuple #[.pointer A, .int .i64 y]) ∧ LQ a w' p L d A y := by
  cases d with
  | true =>
    refine (load_q a p v L hi (hd.1 rfl)).mono ?_
    rintro e w' ⟨r, rfl, h⟩
    exact ⟨_, _, rfl, fun _ => ⟨r, rfl, rfl, h⟩, fun h => (by cases h), h.below⟩
  | false =>
    refine (load_e a p v L hi (fun h => by have := hd.2 h; cases this)).mono ?_
    rintro e w' ⟨rfl, h⟩
    exact ⟨_, _, rfl, fun h => (by cases h), fun _ => ⟨rfl, rfl⟩, h⟩
theorem LQ.over {d : Bool} {A : Option Addr} {y : Int} (h : LQ a w p L d A y) (hb : Below w.heap.size w w') : LQ a w' p L d A y :=
  ⟨fun e => by
    obtain ⟨r, h1, h2, h3⟩ := h.1 e
    exact ⟨r, h1, h2, h3.over hb⟩, h.2.1, thenBelow h.2.2 hb⟩
/-- behind it: both lists are there -/
def St0 (w W : World) (r rr : Nat) : Prop := ∃ a G, Below w.heap.size w a ∧ SS a W r rr G []
theorem St0.below {w W : World} (h : St0 w W r rr) : Below w.heap.size w W := by
  obtain ⟨a, G, h1, h2⟩ := h
  exact thenBelow h1 h2.below
end

end Go.Proofs.Ytoiaamijjcjjiaa.P7
