/-
  The statements' first call; two pages compared.
-/
import Derived.Test.YtcoaabplhkmpfaaPg12
import Derived.Laws.StructEq
namespace Go.Proofs.Ytcoaabplhkmpfaa.P5
open Go Go.RowKit Go.Lib Go.Proofs.Ytcoaabplhkmpfaa.P0 Go.Proofs.Ytcoaabplhkmpfaa.P2

/-- are two pages alike, as a Boolean -/
def Pg.same (p q : Pg) : Bool := (p.k == q.k) && (p.id == q.id) && (p.tx == q.tx) && (p.body.toList == q.body.toList)
theorem Pg.same_self (p : Pg) : p.same p = true := by
  unfold Pg.same
  rw [beq_self_eq_true, beq_self_eq_true, beq_self_eq_true, beq_self_eq_true]
  rfl
theorem Pg.same_eq {p q : Pg} (h : p.same q = true) : p = q := by
  obtain ⟨k, i, t, b⟩ := p
  obtain ⟨k', i', t', b'⟩ := q
  unfold Pg.same at h
  simp only [Bool.and_eq_true, beq_iff_eq] at h
  obtain ⟨⟨⟨h1, h2⟩, h3⟩, h4⟩ := h
  have h5 : b = b' := by
    by_cases e : b = b'
    · exact e
    · have := same_false e
      rw [h4] at this
      simp at this
  subst h1 h2 h3 h5
  rfl
theorem Pg.same_ne {p q : Pg} (h : p ≠ q) : p.same q = false := by
  cases e : p.same q
  · rfl
  · exact absurd (Pg.same_eq e) h
theorem stood : Try.prog.stoodInHeld 23 = false := by kernel_rfl
theorem page_desc : Try.prog.underlying 23 = some (.struct (Try.prog.fieldsOf 23)) := by
  unfold Program.fieldsOf
  rw [Try.underlying23]
theorem part_int (w : World) (cs : Array Value) (j : Nat) (v : Value) (h : cs[j]? = some v) : (part 3 cs j).run Try.prog w = .ok v w := by
  simp [part, Sem.run_bind, Try.isAgg3, h]
theorem part_str (w : World) (cs : Array Value) (j : Nat) (v : Value) (h : cs[j]? = some v) : (part 9 cs j).run Try.prog w = .ok v w := by
  simp [part, Sem.run_bind, Try.isAgg9, h]
theorem page_eql (w : World) (p q : Pg) : (binOp .eql 23 p.v q.v).run Try.prog w = .ok (.bool (p.same q)) w := by
  unfold Pg.v
  rw [run_eql_struct, run_equalIn_agg w 9999 _ _ _ page_desc stood]
  have ei : ∀ (w : World) (a b : Int), (Op.equalIn 9999 3 (.int .i64 a) (.int .i64 b)).run Try.prog w = .ok (a == b) w := fun w a b => run_equalIn_int w 9998 _ _ _ a b Try.underlying3
  have es : ∀ (w : World) (a b : ByteArray), (Op.equalIn 9999 9 (.string a) (.string b)).run Try.prog w = .ok (a.toList == b.toList) w := fun w a b => run_equalIn_string w 9998 _ a b Try.underlying9
  have q0 : ∀ (w : World) (a b c d : Value), (part 3 #[a, b, c, d] 0).run Try.prog w = .ok a w := fun w a b c d => part_int w _ 0 a rfl
  have q1 : ∀ (w : World) (a b c d : Value), (part 3 #[a, b, c, d] 1).run Try.prog w = .ok b w := fun w a b c d => part_int w _ 1 b rfl
  have q2 : ∀ (w : World) (a b c d : Value), (part 3 #[a, b, c, d] 2).run Try.prog w = .ok c w := fun w a b c d => part_int w _ 2 c rfl
  have q3 : ∀ (w : World) (a b c d : Value), (part 9 #[a, b, c, d] 3).run Try.prog w = .ok d w := fun w a b c d => part_str w _ 3 d rfl
  simp [Program.fieldsOf, Try.underlying23, Op.eqFields, q0, q1, q2, q3, ei, es]
  unfold Pg.same
  by_cases h1 : p.k = q.k <;> by_cases h2 : p.id = q.id <;> by_cases h3 : p.tx = q.tx <;> by_cases h4 : p.body.toList = q.body.toList <;> simp [h1, h2, h3, h4]


/-- a page of the first call -/
def p5 : Pg := ⟨3, 3, 9, ⟨#[97, 98]⟩⟩
theorem p5_ok : p5.ok := by decide
theorem front_sector (W : World) (p : Pg) (h : p.ok) :
    Calls Try.prog 16 #[.string p.sector] W fun r w' => r = .returned (.tuple #[.int .i64 p.k, .int .i64 p.id, .int .i64 p.tx]) ∧ Below W.heap.size W w' := by
  have hs := p.sector_size h
  have H := front_any W p.sector (by omega) (by omega)
  have e := of_sector h
  have e1 : (kOf p.sector.data.toList : Int) = p.k := congrArg Pg.k e
  have e2 : idOf p.sector.data.toList = p.id := congrArg Pg.id e
  have e3 : txOf p.sector.data.toList = p.tx := congrArg Pg.tx e
  rw [e1, e2, e3] at H
  exact H
theorem read_sector (W : World) (p : Pg) (h : p.ok) :
    Calls Try.prog 11 #[.string p.sector] W fun r w' => r = .returned (.tuple #[p.v, .int .i64 0]) ∧ Below W.heap.size W w' := by
  have H := read_any W p.sector
  obtain ⟨e1, e2⟩ := read_yes h
  rw [e1, e2] at H
  exact H
theorem kept_cells {w w' : World} {a : Nat} {cs : Array Value} (h : w.heap[a]? = some (.cells cs 23 (0, 0))) (hb : Below w.heap.size w w') : w'.heap[a]? = some (.cells cs 23 (0, 0)) := by
  rw [hb.block a (lt_of_block h)]; exact h
theorem four {w : World} {a : Nat} {c0 c1 c2 c3 : Value} (h : w.heap[a]? = some (.cells #[c0, c1, c2, c3] 23 (0, 0))) :
    w.cell? ⟨a, 0, none⟩ = some c0 ∧ w.cell? ⟨a, 1, none⟩ = some c1 ∧ w.cell? ⟨a, 2, none⟩ = some c2 ∧ w.cell? ⟨a, 3, none⟩ = some c3 :=
  ⟨cell_at h 0, cell_at h 1, cell_at h 2, cell_at h 3⟩
theorem new_page (w : World) (cs : Array Value) : (w.alloc (.cells cs 23)).heap[w.heap.size]? = some (.cells cs 23 (0, 0)) := new_at w _ _
theorem kept_new {w w' : World} {a : Nat} {cs ds : Array Value} (h : w.heap[a]? = some (.cells cs 23 (0, 0))) (hb : Below (w.alloc (.cells ds 23)).heap.size (w.alloc (.cells ds 23)) w') : w'.heap[a]? = some (.cells cs 23 (0, 0)) :=
  kept_cells (kept_cells h (below_new w _)) hb
set_option maxRecDepth 100000 in
set_option maxHeartbeats 2000000 in
theorem alive_any5 (w : World) :
    Calls Try.prog 7 #[] w fun r w' => r = .returned (.bool true) ∧ Below w.heap.size w w' := by
  have H1 := fun W => Lib.hid (lay_ok W p5 p5_ok)
  have H2 := fun W => Lib.hid (read_sector W p5 p5_ok)
  have H3 := fun W => Lib.hid (front_sector W p5 p5_ok)
  have hs := p5.sector_size p5_ok
  generalize p5.sector = S at *
  have hE := fun W : World => page_eql W p5 p5
  rw [Pg.same_self] at hE
  have HK := Lib.hid (fun w1 hb => (RSt.start w p5).over (w' := w1) hb)
  unfold Pg.v Pg.cells p5 at *
  go_enter Try.func7, Try.ntmps7
  go_wp2_with (first
    | (go_at_call 10; (with_reducible refine (H1 _).out.mono ?_); rintro e w1 ⟨rfl, hb1⟩; have s1 := HK.out _ hb1)
    | (go_at_call 11; (with_reducible refine (H2 _).out.mono ?_); rintro e w2 ⟨rfl, hb2⟩; have s2 := s1.over hb2)
    | (go_at_call 16; (with_reducible refine (H3 _).out.mono ?_); rintro e w3 ⟨rfl, hb3⟩; obtain ⟨a0, a1, a2, a3⟩ := four (kept_cells (new_page w2 _) hb3); obtain ⟨b0, b1, b2, b3⟩ := four (kept_new s2.page hb3); have hF := thenBelow (grow s2.below _) hb3))
  go_ret
  exact ⟨rfl, hF⟩

end Go.Proofs.Ytcoaabplhkmpfaa.P5
