/-
  Two pages compared; a sector read; Lay of any page. (Alive5 and LawBack5 without their statements.)
-/
import Derived.Test.YtnmklhajpcnkoaaPg12
import Derived.Laws.StructEq
namespace Go.Proofs.Ytnmklhajpcnkoaa.P5
open Go Go.RowKit Go.Lib Go.Proofs.Ytnmklhajpcnkoaa.P0 Go.Proofs.Ytnmklhajpcnkoaa.P2

/-- are two pages alike, as a Boolean -/
def Pg.same (p q : Pg) : Bool := (p.k == q.k) && (p.id == q.id) && (p.tx == q.tx) && (p.body.toList == q.body.toList)
theorem Pg.same_self (p : Pg) : p.same p = true := by
  unfold Pg.same
  rw [beq_self_eq_true, beq_self_eq_true, beq_self_eq_true, beq_self_eq_true]
  rfl
theorem Pg.same_eq {p q : Pg} (h : p.same q = true) : p = q := by
  obtain ⟨k, i, t, b⟩ := p
  obtain ⟨k', i', t', b'⟩ := q
  unfold Pg.same at h
  simp only [Bool.and_eq_true, beq_iff_eq] at h
  obtain ⟨⟨⟨h1, h2⟩, h3⟩, h4⟩ := h
  have h5 : b = b' := by
    by_cases e : b = b'
    · exact e
    · have := same_false e
      rw [h4] at this
      simp at this
  subst h1 h2 h3 h5
  rfl
theorem Pg.same_ne {p q : Pg} (h : p ≠ q) : p.same q = false := by
  cases e : p.same q
  · rfl
  · exact absurd (Pg.same_eq e) h
theorem stood : Try.prog.stoodInHeld 50 = false := by kernel_rfl
theorem page_desc : Try.prog.underlying 50 = some (.struct (Try.prog.fieldsOf 50)) := by
  unfold Program.fieldsOf
  rw [Try.underlying50]
theorem part_int (w : World) (cs : Array Value) (j : Nat) (v : Value) (h : cs[j]? = some v) : (part 3 cs j).run Try.prog w = .ok v w := by
  simp [part, Sem.run_bind, Try.isAgg3, h]
theorem part_str (w : World) (cs : Array Value) (j : Nat) (v : Value) (h : cs[j]? = some v) : (part 9 cs j).run Try.prog w = .ok v w := by
  simp [part, Sem.run_bind, Try.isAgg9, h]
theorem page_eql (w : World) (p q : Pg) : (binOp .eql 50 p.v q.v).run Try.prog w = .ok (.bool (p.same q)) w := by
  unfold Pg.v
  rw [run_eql_struct, run_equalIn_agg w 9999 _ _ _ page_desc stood]
  have ei : ∀ (w : World) (a b : Int), (Op.equalIn 9999 3 (.int .i64 a) (.int .i64 b)).run Try.prog w = .ok (a == b) w := fun w a b => run_equalIn_int w 9998 _ _ _ a b Try.underlying3
  have es : ∀ (w : World) (a b : ByteArray), (Op.equalIn 9999 9 (.string a) (.string b)).run Try.prog w = .ok (a.toList == b.toList) w := fun w a b => run_equalIn_string w 9998 _ a b Try.underlying9
  have q0 : ∀ (w : World) (a b c d : Value), (part 3 #[a, b, c, d] 0).run Try.prog w = .ok a w := fun w a b c d => part_int w _ 0 a rfl
  have q1 : ∀ (w : World) (a b c d : Value), (part 3 #[a, b, c, d] 1).run Try.prog w = .ok b w := fun w a b c d => part_int w _ 1 b rfl
  have q2 : ∀ (w : World) (a b c d : Value), (part 3 #[a, b, c, d] 2).run Try.prog w = .ok c w := fun w a b c d => part_int w _ 2 c rfl
  have q3 : ∀ (w : World) (a b c d : Value), (part 9 #[a, b, c, d] 3).run Try.prog w = .ok d w := fun w a b c d => part_str w _ 3 d rfl
  simp [Program.fieldsOf, Try.underlying50, Op.eqFields, q0, q1, q2, q3, ei, es]
  unfold Pg.same
  by_cases h1 : p.k = q.k <;> by_cases h2 : p.id = q.id <;> by_cases h3 : p.tx = q.tx <;> by_cases h4 : p.body.toList = q.body.toList <;> simp [h1, h2, h3, h4]


theorem front_sector (W : World) (p : Pg) (h : p.ok) :
    Calls Try.prog 41 #[.string p.sector] W fun r w' => r = .returned (.tuple #[.int .i64 p.k, .int .i64 p.id, .int .i64 p.tx]) ∧ Below W.heap.size W w' := by
  have hs := p.sector_size h
  have H := front_any W p.sector (by omega) (by omega)
  have e := of_sector h
  have e1 : (kOf p.sector.data.toList : Int) = p.k := congrArg Pg.k e
  have e2 : idOf p.sector.data.toList = p.id := congrArg Pg.id e
  have e3 : txOf p.sector.data.toList = p.tx := congrArg Pg.tx e
  rw [e1, e2, e3] at H
  exact H
theorem read_sector (W : World) (p : Pg) (h : p.ok) :
    Calls Try.prog 25 #[.string p.sector] W fun r w' => r = .returned (.tuple #[p.v, .int .i64 0]) ∧ Below W.heap.size W w' := by
  have H := read_any W p.sector
  obtain ⟨e1, e2⟩ := read_yes h
  rw [e1, e2] at H
  exact H
theorem kept_cells {w w' : World} {a : Nat} {cs : Array Value} (h : w.heap[a]? = some (.cells cs 50 (0, 0))) (hb : Below w.heap.size w w') : w'.heap[a]? = some (.cells cs 50 (0, 0)) := by
  rw [hb.block a (lt_of_block h)]; exact h
theorem four {w : World} {a : Nat} {c0 c1 c2 c3 : Value} (h : w.heap[a]? = some (.cells #[c0, c1, c2, c3] 50 (0, 0))) :
    w.cell? ⟨a, 0, none⟩ = some c0 ∧ w.cell? ⟨a, 1, none⟩ = some c1 ∧ w.cell? ⟨a, 2, none⟩ = some c2 ∧ w.cell? ⟨a, 3, none⟩ = some c3 :=
  ⟨cell_at h 0, cell_at h 1, cell_at h 2, cell_at h 3⟩
theorem new_page (w : World) (cs : Array Value) : (w.alloc (.cells cs 50)).heap[w.heap.size]? = some (.cells cs 50 (0, 0)) := new_at w _ _
theorem kept_new {w w' : World} {a : Nat} {cs ds : Array Value} (h : w.heap[a]? = some (.cells cs 50 (0, 0))) (hb : Below (w.alloc (.cells ds 50)).heap.size (w.alloc (.cells ds 50)) w') : w'.heap[a]? = some (.cells cs 50 (0, 0)) :=
  kept_cells (kept_cells h (below_new w _)) hb
/-- Lay, whatever is handed in -/
def laidB (p : Pg) : ByteArray := if p.ok then p.sector else ⟨#[]⟩
def laidE (p : Pg) : Int := if p.ok then 0 else 1
theorem lay_any (w : World) (p : Pg) :
    Calls Try.prog 20 #[p.v] w fun r w' => r = .returned (.tuple #[.string (laidB p), .int .i64 (laidE p)]) ∧ Below w.heap.size w w' := by
  unfold laidB laidE
  by_cases h : p.ok
  · rw [if_pos h, if_pos h]; exact lay_ok w p h
  · rw [if_neg h, if_neg h]; exact lay_bad w p h

end Go.Proofs.Ytnmklhajpcnkoaa.P5
