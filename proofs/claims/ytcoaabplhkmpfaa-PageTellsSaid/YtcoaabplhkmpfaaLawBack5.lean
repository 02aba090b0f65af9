/-
  P501, W5: a page is read as it was laid; its sector is the one page of that sector: the walk of the statement PageBack.
-/
import Derived.Test.YtcoaabplhkmpfaaAlive5
namespace Go.Proofs.Ytcoaabplhkmpfaa.P5
open Go Go.RowKit Go.Lib Go.Proofs.Ytcoaabplhkmpfaa.P0 Go.Proofs.Ytcoaabplhkmpfaa.P2

/-- two pages in two blocks -/
structure TSt (w0 : World) (a b : Nat) (p q : Pg) (w : World) : Prop where
  pa : w.heap[a]? = some (.cells p.cells 23 (0, 0))
  pb : w.heap[b]? = some (.cells q.cells 23 (0, 0))
  below : Below w0.heap.size w0 w
theorem TSt.over {w0 : World} {a b : Nat} {p q : Pg} {w w' : World} (h : TSt w0 a b p q w) (k : Below w.heap.size w w') : TSt w0 a b p q w' :=
  ⟨kept_cells h.pa k, kept_cells h.pb k, thenBelow h.below k⟩
theorem TSt.grow {w0 : World} {a b : Nat} {p q : Pg} {w : World} (h : TSt w0 a b p q w) (o : Obj) : TSt w0 a b p q (w.alloc o) := h.over (below_new w o)
theorem TSt.start (w : World) (p q : Pg) : TSt w w.heap.size (w.heap.size + 1) p q ((w.alloc (.cells p.cells 23)).alloc (.cells q.cells 23)) := by
  refine ⟨?_, ?_, P0.grow (below_new w _) _⟩
  · rw [Below.heap_alloc _ _ _ (by simp)]; exact new_at w _ _
  · have := new_at (w.alloc (.cells p.cells 23)) q.cells 23
    simpa using this
theorem TSt.a {w0 : World} {a b : Nat} {p q : Pg} {w : World} (h : TSt w0 a b p q w) : PCells w a p := Pg.pcells h.pa
theorem TSt.b {w0 : World} {a b : Nat} {p q : Pg} {w : World} (h : TSt w0 a b p q w) : PCells w b q := Pg.pcells h.pb

theorem back_skip (w : World) (p q : Pg) (h : ¬ (p.body.size ≤ 300 ∧ q.body.size ≤ 300)) :
    Calls Try.prog 6 #[p.v, q.v] w fun r w' => r = .returned (.bool true) ∧ Below w.heap.size w w' := by
  have K := fun w' => Lib.hid (alive_any5 w')
  have hB : Hid (Below w.heap.size w ((w.alloc (.cells p.cells 23)).alloc (.cells q.cells 23))) := P0.grow (below_new w _) _
  unfold Pg.v Pg.cells at *
  by_cases h1 : p.body.size ≤ 300
  · have k1 : decide ((300 : Int) < (p.body.size : Int)) = false := decide_eq_false (by omega)
    have k1' : decide (300 < p.body.size) = false := decide_eq_false (by omega)
    have k2 : decide ((300 : Int) < (q.body.size : Int)) = true := decide_eq_true (by omega)
    have k2' : decide (300 < q.body.size) = true := decide_eq_true (by omega)
    clear h h1
    go_enter Try.func6, Try.ntmps6
    go_wp2_with (go_at_call 7; (with_reducible refine (K _).out.mono ?_); rintro e w1 ⟨rfl, hb⟩)
    go_ret
    exact ⟨rfl, thenBelow hB.out hb⟩
  · have k1 : decide ((300 : Int) < (p.body.size : Int)) = true := decide_eq_true (by omega)
    have k1' : decide (300 < p.body.size) = true := decide_eq_true (by omega)
    clear h h1
    go_enter Try.func6, Try.ntmps6
    go_wp2_with (go_at_call 7; (with_reducible refine (K _).out.mono ?_); rintro e w1 ⟨rfl, hb⟩)
    go_ret
    exact ⟨rfl, thenBelow hB.out hb⟩

/-- Lay, whatever is handed in -/
def laidB (p : Pg) : ByteArray := if p.ok then p.sector else ⟨#[]⟩
def laidE (p : Pg) : Int := if p.ok then 0 else 1
theorem lay_any (w : World) (p : Pg) :
    Calls Try.prog 10 #[p.v] w fun r w' => r = .returned (.tuple #[.string (laidB p), .int .i64 (laidE p)]) ∧ Below w.heap.size w w' := by
  unfold laidB laidE
  by_cases h : p.ok
  · rw [if_pos h, if_pos h]; exact lay_ok w p h
  · rw [if_neg h, if_neg h]; exact lay_bad w p h

set_option maxRecDepth 100000 in
set_option maxHeartbeats 4000000 in
theorem back_bad (w : World) (p q : Pg) (h1 : p.body.size ≤ 300) (h2 : q.body.size ≤ 300) (h : ¬ (p.ok ∧ q.ok)) :
    Calls Try.prog 6 #[p.v, q.v] w fun r w' => r = .returned (.bool true) ∧ Below w.heap.size w w' := by
  have K := fun w' => Lib.hid (alive_any5 w')
  have k1 : decide ((300 : Int) < (p.body.size : Int)) = false := decide_eq_false (by omega)
  have k1' : decide (300 < p.body.size) = false := decide_eq_false (by omega)
  have k2 : decide ((300 : Int) < (q.body.size : Int)) = false := decide_eq_false (by omega)
  have k2' : decide (300 < q.body.size) = false := decide_eq_false (by omega)
  have L1 := fun W => Lib.hid (lay_any W p)
  have L2 := fun W => Lib.hid (lay_any W q)
  have V1 := fun W => Lib.hid (rValid_any W p)
  have V2 := fun W => Lib.hid (rValid_any W q)
  obtain ⟨e1, hp, he1⟩ : ∃ e : Int, laidE p = e ∧ (e == 0) = decide p.ok := ⟨_, rfl, by unfold laidE; split <;> simp_all⟩
  obtain ⟨e2, hq, he2⟩ : ∃ e : Int, laidE q = e ∧ (e == 0) = decide q.ok := ⟨_, rfl, by unfold laidE; split <;> simp_all⟩
  have hor : (decide p.ok && decide q.ok) = false := by
    cases h3 : decide p.ok <;> cases h4 : decide q.ok <;> simp_all
  rw [hp] at L1
  rw [hq] at L2
  have n1 : (e1 != 0) = !decide p.ok := by rw [← he1]; rfl
  have n2 : (e2 != 0) = !decide q.ok := by rw [← he2]; rfl
  have HST := Lib.hid (TSt.start w p q)
  generalize laidB p = S1 at *
  generalize laidB q = S2 at *
  clear hp hq h h1 h2
  have CA := Lib.hid (show ∀ W, TSt w w.heap.size (w.heap.size + 1) p q W → _ ∧ _ from fun W hW => ⟨hW.a, hW.b⟩)
  have CB := Lib.hid (show ∀ W, TSt w w.heap.size (w.heap.size + 1) p q W → Below w.heap.size w W from fun W hW => hW.below)
  unfold PCells at CA
  unfold Pg.v Pg.cells at *
  cases hb1 : decide p.ok
  · rw [hb1] at he1 n1 V1
    simp only [Bool.not_false] at n1
    cases hb2 : decide q.ok
    all_goals
      rw [hb2] at he2 n2 V2
      simp only [Bool.not_false, Bool.not_true] at n2
      go_enter Try.func6, Try.ntmps6
      go_wp2_with (first
        | (go_at_call 7; (with_reducible refine (K _).out.mono ?_); rintro e w1 ⟨rfl, hb⟩; have s1 := HST.out.over hb; obtain ⟨⟨a0, a1, a2, a3⟩, ⟨c0, c1, c2, c3⟩⟩ := CA.out _ s1)
        | (go_at_call 10; (with_reducible refine (L1 _).out.mono ?_); rintro e w2 ⟨rfl, hb⟩; have s2 := s1.over hb; obtain ⟨⟨a0, a1, a2, a3⟩, ⟨c0, c1, c2, c3⟩⟩ := CA.out _ s2)
        | (go_at_call 10; (with_reducible refine (L2 _).out.mono ?_); rintro e w3 ⟨rfl, hb⟩; have s3 := s2.over hb; obtain ⟨⟨a0, a1, a2, a3⟩, ⟨c0, c1, c2, c3⟩⟩ := CA.out _ s3)
        | (go_at_call 13; (with_reducible refine (V1 _).out.mono ?_); rintro e w4 ⟨rfl, hb⟩; have s4 := s3.over hb; obtain ⟨⟨a0, a1, a2, a3⟩, ⟨c0, c1, c2, c3⟩⟩ := CA.out _ s4)
        | (go_at_call 13; (with_reducible refine (V2 _).out.mono ?_); rintro e w5 ⟨rfl, hb⟩; have s5 := s4.over hb))
      go_ret
      exact ⟨rfl, CB.out _ s5⟩
  · rw [hb1] at he1 n1 V1
    rw [hb1, Bool.true_and] at hor
    rw [hor] at he2 n2 V2
    simp only [Bool.not_false, Bool.not_true] at n1 n2
    go_enter Try.func6, Try.ntmps6
    go_wp2_with (first
      | (go_at_call 7; (with_reducible refine (K _).out.mono ?_); rintro e w1 ⟨rfl, hb⟩; have s1 := HST.out.over hb; obtain ⟨⟨a0, a1, a2, a3⟩, ⟨c0, c1, c2, c3⟩⟩ := CA.out _ s1)
      | (go_at_call 10; (with_reducible refine (L1 _).out.mono ?_); rintro e w2 ⟨rfl, hb⟩; have s2 := s1.over hb; obtain ⟨⟨a0, a1, a2, a3⟩, ⟨c0, c1, c2, c3⟩⟩ := CA.out _ s2)
      | (go_at_call 10; (with_reducible refine (L2 _).out.mono ?_); rintro e w3 ⟨rfl, hb⟩; have s3 := s2.over hb; obtain ⟨⟨a0, a1, a2, a3⟩, ⟨c0, c1, c2, c3⟩⟩ := CA.out _ s3)
      | (go_at_call 13; (with_reducible refine (V1 _).out.mono ?_); rintro e w4 ⟨rfl, hb⟩; have s4 := s3.over hb; obtain ⟨⟨a0, a1, a2, a3⟩, ⟨c0, c1, c2, c3⟩⟩ := CA.out _ s4)
      | (go_at_call 13; (with_reducible refine (V2 _).out.mono ?_); rintro e w5 ⟨rfl, hb⟩; have s5 := s4.over hb))
    go_ret
    exact ⟨rfl, CB.out _ s5⟩

set_option maxRecDepth 100000 in
set_option maxHeartbeats 4000000 in
theorem back_in (w : World) (p q : Pg) (h1 : p.body.size ≤ 300) (h2 : q.body.size ≤ 300) (hp : p.ok) (hq : q.ok) :
    Calls Try.prog 6 #[p.v, q.v] w fun r w' => r = .returned (.bool true) ∧ Below w.heap.size w w' := by
  have K := fun w' => Lib.hid (alive_any5 w')
  have k1 : decide ((300 : Int) < (p.body.size : Int)) = false := decide_eq_false (by omega)
  have k1' : decide (300 < p.body.size) = false := decide_eq_false (by omega)
  have k2 : decide ((300 : Int) < (q.body.size : Int)) = false := decide_eq_false (by omega)
  have k2' : decide (300 < q.body.size) = false := decide_eq_false (by omega)
  have L1 := fun W => Lib.hid (lay_ok W p hp)
  have L2 := fun W => Lib.hid (lay_ok W q hq)
  have R1 := fun W => Lib.hid (read_sector W p hp)
  have hz := p.sector_size hp
  have HST := Lib.hid (TSt.start w p q)
  have E1 := fun W : World => page_eql W p p
  rw [Pg.same_self] at E1
  obtain ⟨B, hB⟩ : ∃ B : Bool, p.same q = B := ⟨_, rfl⟩
  have E2 := fun W : World => page_eql W p q
  rw [hB] at E2
  have hS : (p.sector.toList == q.sector.toList) = B := by
    cases B
    · refine same_false fun e => ?_
      rw [sector_inj hp hq e, Pg.same_self] at hB
      cases hB
    · rw [Pg.same_eq hB]; exact same_true rfl
  generalize p.sector = S1 at *
  generalize q.sector = S2 at *
  clear hB h1 h2 hp hq
  have CA := Lib.hid (show ∀ W, TSt w w.heap.size (w.heap.size + 1) p q W → _ ∧ _ from fun W hW => ⟨hW.a, hW.b⟩)
  have CB := Lib.hid (show ∀ W, TSt w w.heap.size (w.heap.size + 1) p q W → Below w.heap.size w W from fun W hW => hW.below)
  unfold PCells at CA
  unfold Pg.v Pg.cells at *
  go_enter Try.func6, Try.ntmps6
  go_wp2_with (first
    | (go_at_call 7; (with_reducible refine (K _).out.mono ?_); rintro e w1 ⟨rfl, hb⟩; have s1 := HST.out.over hb; obtain ⟨⟨a0, a1, a2, a3⟩, ⟨c0, c1, c2, c3⟩⟩ := CA.out _ s1)
    | (go_at_call 10; (with_reducible refine (L1 _).out.mono ?_); rintro e w2 ⟨rfl, hb⟩; have s2 := s1.over hb; obtain ⟨⟨a0, a1, a2, a3⟩, ⟨c0, c1, c2, c3⟩⟩ := CA.out _ s2)
    | (go_at_call 10; (with_reducible refine (L2 _).out.mono ?_); rintro e w3 ⟨rfl, hb⟩; have s3 := s2.over hb; obtain ⟨⟨a0, a1, a2, a3⟩, ⟨c0, c1, c2, c3⟩⟩ := CA.out _ s3)
    | (go_at_call 11; (with_reducible refine (R1 _).out.mono ?_); rintro e w4 ⟨rfl, hb⟩; have s4 := s3.over hb; have s5 := s4.grow (.cells #[.int .i64 p.k, .int .i64 p.id, .int .i64 p.tx, .string p.body] 23); obtain ⟨⟨a0, a1, a2, a3⟩, ⟨c0, c1, c2, c3⟩⟩ := CA.out _ s5))
  go_ret
  exact ⟨rfl, CB.out _ s5⟩

theorem back_walk (w : World) (p q : Pg) :
    Calls Try.prog 6 #[p.v, q.v] w fun r w' => r = .returned (.bool true) ∧ Below w.heap.size w w' := by
  by_cases h1 : p.body.size ≤ 300 ∧ q.body.size ≤ 300
  · by_cases h : p.ok ∧ q.ok
    · exact back_in w p q h1.1 h1.2 h.1 h.2
    · exact back_bad w p q h1.1 h1.2 h
  · exact back_skip w p q h1

end Go.Proofs.Ytcoaabplhkmpfaa.P5
