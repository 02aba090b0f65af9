/-
  P503, W1: a sector of which some first bytes are of one page, and the others of another one: the walk of the statement PageTorn.
-/
import Derived.Test.YtcoaabplhkmpfaaLawBack5
namespace Go.Proofs.Ytcoaabplhkmpfaa.P5
open Go Go.RowKit Go.Lib Go.Proofs.Ytcoaabplhkmpfaa.P0 Go.Proofs.Ytcoaabplhkmpfaa.P2

theorem TSt.overD {w0 : World} {a b : Nat} {p q : Pg} {w w' : World} {n : Nat} (h : TSt w0 a b p q w) (k : Below (w.drewN n).heap.size (w.drewN n) w') : TSt w0 a b p q w' :=
  h.over ⟨k.os, k.tape, k.output, k.size, k.block⟩
theorem torn_skip (w : World) (p q : Pg) (c : Int) (h : ¬ (p.body.size ≤ 300 ∧ q.body.size ≤ 300)) :
    Calls Try.prog 4 #[p.v, q.v, .int .i64 c] w fun r w' => r = .returned (.bool true) ∧ Below w.heap.size w w' := by
  have K := fun w' => Lib.hid (alive_any5 w')
  have hB : Hid (Below w.heap.size w ((w.alloc (.cells p.cells 23)).alloc (.cells q.cells 23))) := P0.grow (below_new w _) _
  unfold Pg.v Pg.cells at *
  by_cases h1 : p.body.size ≤ 300
  · have k1 : decide ((300 : Int) < (p.body.size : Int)) = false := decide_eq_false (by omega)
    have k1' : decide (300 < p.body.size) = false := decide_eq_false (by omega)
    have k2 : decide ((300 : Int) < (q.body.size : Int)) = true := decide_eq_true (by omega)
    have k2' : decide (300 < q.body.size) = true := decide_eq_true (by omega)
    clear h h1
    go_enter Try.func4, Try.ntmps4
    go_wp2_with (go_at_call 7; (with_reducible refine (K _).out.mono ?_); rintro e w1 ⟨rfl, hb⟩)
    go_ret
    exact ⟨rfl, thenBelow hB.out hb⟩
  · have k1 : decide ((300 : Int) < (p.body.size : Int)) = true := decide_eq_true (by omega)
    have k1' : decide (300 < p.body.size) = true := decide_eq_true (by omega)
    clear h h1
    go_enter Try.func4, Try.ntmps4
    go_wp2_with (go_at_call 7; (with_reducible refine (K _).out.mono ?_); rintro e w1 ⟨rfl, hb⟩)
    go_ret
    exact ⟨rfl, thenBelow hB.out hb⟩

set_option maxRecDepth 100000 in
set_option maxHeartbeats 4000000 in
theorem torn_out (w : World) (p q : Pg) (c : Int) (h1 : p.body.size ≤ 300) (h2 : q.body.size ≤ 300) (h : ¬ (p.ok ∧ q.ok ∧ p.tx % 4294967296 ≠ q.tx % 4294967296 ∧ 0 ≤ c ∧ c ≤ 256)) :
    Calls Try.prog 4 #[p.v, q.v, .int .i64 c] w fun r w' => r = .returned (.bool true) ∧ Below w.heap.size w w' := by
  have K := fun w' => Lib.hid (alive_any5 w')
  have k1 : decide ((300 : Int) < (p.body.size : Int)) = false := decide_eq_false (by omega)
  have k1' : decide (300 < p.body.size) = false := decide_eq_false (by omega)
  have k2 : decide ((300 : Int) < (q.body.size : Int)) = false := decide_eq_false (by omega)
  have k2' : decide (300 < q.body.size) = false := decide_eq_false (by omega)
  have HST := Lib.hid (TSt.start w p q)
  have CA := Lib.hid (show ∀ W, TSt w w.heap.size (w.heap.size + 1) p q W → _ ∧ _ from fun W hW => ⟨hW.a, hW.b⟩)
  have CB := Lib.hid (show ∀ W, TSt w w.heap.size (w.heap.size + 1) p q W → Below w.heap.size w W from fun W hW => hW.below)
  unfold PCells at CA
  have L1 := fun W => Lib.hid (lay_any W p)
  have L2 := fun W => Lib.hid (lay_any W q)
  by_cases g1 : p.ok
  · have f1 : laidE p = 0 := if_pos g1
    rw [f1] at L1
    by_cases g2 : q.ok
    · have f2 : laidE q = 0 := if_pos g2
      rw [f2] at L2
      by_cases g3 : p.tx % 4294967296 = q.tx % 4294967296
      · have f3 : (p.tx % 4294967296 == q.tx % 4294967296) = true := by simpa using g3
        unfold Pg.v Pg.cells at *
        clear h g1 g2 g3 h1 h2 f1 f2
        go_enter Try.func4, Try.ntmps4
        go_wp2_with (first
          | (go_at_call 7; (with_reducible refine (K _).out.mono ?_); rintro e w1 ⟨rfl, hb⟩; have s1 := HST.out.over hb; obtain ⟨⟨a0, a1, a2, a3⟩, ⟨c0, c1, c2, c3⟩⟩ := CA.out _ s1)
          | (go_at_call 10; (with_reducible refine (L1 _).out.mono ?_); rintro e w2 ⟨rfl, hb⟩; have s2 := s1.over hb; obtain ⟨⟨a0, a1, a2, a3⟩, ⟨c0, c1, c2, c3⟩⟩ := CA.out _ s2)
          | (go_at_call 10; (with_reducible refine (L2 _).out.mono ?_); rintro e w3 ⟨rfl, hb⟩; have s3 := s2.over hb; obtain ⟨⟨a0, a1, a2, a3⟩, ⟨c0, c1, c2, c3⟩⟩ := CA.out _ s3))
        go_ret
        exact ⟨rfl, CB.out _ s3⟩
      · have f3 : (p.tx % 4294967296 == q.tx % 4294967296) = false := by simpa using g3
        by_cases g4 : c < 0
        · have f4 : decide (c < 0) = true := decide_eq_true g4
          unfold Pg.v Pg.cells at *
          clear h g1 g2 g3 g4 h1 h2 f1 f2
          go_enter Try.func4, Try.ntmps4
          go_wp2_with (first
            | (go_at_call 7; (with_reducible refine (K _).out.mono ?_); rintro e w1 ⟨rfl, hb⟩; have s1 := HST.out.over hb; obtain ⟨⟨a0, a1, a2, a3⟩, ⟨c0, c1, c2, c3⟩⟩ := CA.out _ s1)
            | (go_at_call 10; (with_reducible refine (L1 _).out.mono ?_); rintro e w2 ⟨rfl, hb⟩; have s2 := s1.over hb; obtain ⟨⟨a0, a1, a2, a3⟩, ⟨c0, c1, c2, c3⟩⟩ := CA.out _ s2)
            | (go_at_call 10; (with_reducible refine (L2 _).out.mono ?_); rintro e w3 ⟨rfl, hb⟩; have s3 := s2.over hb; obtain ⟨⟨a0, a1, a2, a3⟩, ⟨c0, c1, c2, c3⟩⟩ := CA.out _ s3))
          go_ret
          exact ⟨rfl, CB.out _ s3⟩
        · have f4 : decide (c < 0) = false := decide_eq_false g4
          have f5 : decide ((256 : Int) < c) = true := decide_eq_true (by
            by_cases g5 : c ≤ 256
            · exact absurd ⟨g1, g2, g3, by omega, g5⟩ h
            · omega)
          unfold Pg.v Pg.cells at *
          clear h g1 g2 g3 g4 h1 h2 f1 f2
          go_enter Try.func4, Try.ntmps4
          go_wp2_with (first
            | (go_at_call 7; (with_reducible refine (K _).out.mono ?_); rintro e w1 ⟨rfl, hb⟩; have s1 := HST.out.over hb; obtain ⟨⟨a0, a1, a2, a3⟩, ⟨c0, c1, c2, c3⟩⟩ := CA.out _ s1)
            | (go_at_call 10; (with_reducible refine (L1 _).out.mono ?_); rintro e w2 ⟨rfl, hb⟩; have s2 := s1.over hb; obtain ⟨⟨a0, a1, a2, a3⟩, ⟨c0, c1, c2, c3⟩⟩ := CA.out _ s2)
            | (go_at_call 10; (with_reducible refine (L2 _).out.mono ?_); rintro e w3 ⟨rfl, hb⟩; have s3 := s2.over hb; obtain ⟨⟨a0, a1, a2, a3⟩, ⟨c0, c1, c2, c3⟩⟩ := CA.out _ s3))
          go_ret
          exact ⟨rfl, CB.out _ s3⟩
    · have f2 : laidE q = 1 := if_neg g2
      rw [f2] at L2
      unfold Pg.v Pg.cells at *
      clear h g1 g2 h1 h2 f1 f2
      go_enter Try.func4, Try.ntmps4
      go_wp2_with (first
        | (go_at_call 7; (with_reducible refine (K _).out.mono ?_); rintro e w1 ⟨rfl, hb⟩; have s1 := HST.out.over hb; obtain ⟨⟨a0, a1, a2, a3⟩, ⟨c0, c1, c2, c3⟩⟩ := CA.out _ s1)
        | (go_at_call 10; (with_reducible refine (L1 _).out.mono ?_); rintro e w2 ⟨rfl, hb⟩; have s2 := s1.over hb; obtain ⟨⟨a0, a1, a2, a3⟩, ⟨c0, c1, c2, c3⟩⟩ := CA.out _ s2)
        | (go_at_call 10; (with_reducible refine (L2 _).out.mono ?_); rintro e w3 ⟨rfl, hb⟩; have s3 := s2.over hb; obtain ⟨⟨a0, a1, a2, a3⟩, ⟨c0, c1, c2, c3⟩⟩ := CA.out _ s3))
      go_ret
      exact ⟨rfl, CB.out _ s3⟩
  · have f1 : laidE p = 1 := if_neg g1
    rw [f1] at L1
    unfold Pg.v Pg.cells at *
    obtain ⟨E, hE⟩ : ∃ E, laidE q = E := ⟨_, rfl⟩
    clear h g1 h1 h2 f1
    go_enter Try.func4, Try.ntmps4
    go_wp2_with (first
      | (go_at_call 7; (with_reducible refine (K _).out.mono ?_); rintro e w1 ⟨rfl, hb⟩; have s1 := HST.out.over hb; obtain ⟨⟨a0, a1, a2, a3⟩, ⟨c0, c1, c2, c3⟩⟩ := CA.out _ s1)
      | (go_at_call 10; (with_reducible refine (L1 _).out.mono ?_); rintro e w2 ⟨rfl, hb⟩; have s2 := s1.over hb; obtain ⟨⟨a0, a1, a2, a3⟩, ⟨c0, c1, c2, c3⟩⟩ := CA.out _ s2)
      | (go_at_call 10; (with_reducible refine (L2 _).out.mono ?_); rintro e w3 ⟨rfl, hb⟩; have s3 := s2.over hb; obtain ⟨⟨a0, a1, a2, a3⟩, ⟨c0, c1, c2, c3⟩⟩ := CA.out _ s3))
    go_ret
    exact ⟨rfl, CB.out _ s3⟩

set_option maxRecDepth 100000 in
set_option maxHeartbeats 4000000 in
theorem torn_first (w : World) (p q : Pg) (c : Nat) (h1 : p.body.size ≤ 300) (h2 : q.body.size ≤ 300) (hp : p.ok) (hq : q.ok) (hd : p.tx % 4294967296 ≠ q.tx % 4294967296) (hc : c ≤ 256) (hS : (p.sector.extract 0 c ++ q.sector.extract c q.sector.size) = p.sector) :
    Calls Try.prog 4 #[p.v, q.v, .int .i64 c] w fun r w' => r = .returned (.bool true) ∧ Below w.heap.size w w' := by
  have K := fun w' => Lib.hid (alive_any5 w')
  have k1 : decide ((300 : Int) < (p.body.size : Int)) = false := decide_eq_false (by omega)
  have k1' : decide (300 < p.body.size) = false := decide_eq_false (by omega)
  have k2 : decide ((300 : Int) < (q.body.size : Int)) = false := decide_eq_false (by omega)
  have k2' : decide (300 < q.body.size) = false := decide_eq_false (by omega)
  have HST := Lib.hid (TSt.start w p q)
  have CA := Lib.hid (show ∀ W, TSt w w.heap.size (w.heap.size + 1) p q W → _ ∧ _ from fun W hW => ⟨hW.a, hW.b⟩)
  have CB := Lib.hid (show ∀ W, TSt w w.heap.size (w.heap.size + 1) p q W → Below w.heap.size w W from fun W hW => hW.below)
  unfold PCells at CA
  have L1 := fun W => Lib.hid (lay_ok W p hp)
  have L2 := fun W => Lib.hid (lay_ok W q hq)
  have f3 : (p.tx % 4294967296 == q.tx % 4294967296) = false := by simpa using hd
  have f4 : decide ((c : Int) < 0) = false := decide_eq_false (by omega)
  have f5 : decide ((256 : Int) < (c : Int)) = false := decide_eq_false (by omega)
  have f5' : decide (256 < c) = false := decide_eq_false (by omega)
  have z1 := p.sector_size hp
  have z2 := q.sector_size hq
  have y1 : ((p.sector.size : Int) != 256) = false := by simp; omega
  have y2 : ((q.sector.size : Int) != 256) = false := by simp; omega
  have y3 : (0 : Int) ≤ (c : Int) := by omega
  have y4 : (c : Int) ≤ (p.sector.size : Int) := by omega
  have y5 : (c : Int) ≤ (q.sector.size : Int) := by omega
  have y6 : ¬ 9223372036854775807 < (p.sector.extract 0 c).size + (q.sector.extract c q.sector.size).size := by rw [ByteArray.size_extract, ByteArray.size_extract]; omega
  have R1 := fun W => Lib.hid (show Calls Try.prog 11 #[.string (p.sector.extract 0 c ++ q.sector.extract c q.sector.size)] W fun r w' => r = .returned (.tuple #[p.v, .int .i64 0]) ∧ Below W.heap.size W w' from by rw [hS]; exact read_sector W p hp)
  have E1 := fun W : World => page_eql W p p
  rw [Pg.same_self] at E1
  have e1 := same_true hS
  clear hS
  generalize p.sector = S1 at *
  generalize q.sector = S2 at *
  have y6' := y6
  simp only [ByteArray.size_extract] at y6'
  unfold Pg.v Pg.cells at *
  clear h1 h2 hp hq hd hc z1 z2
  go_enter Try.func4, Try.ntmps4
  go_wp2_with (first
    | (go_at_call 7; (with_reducible refine (K _).out.mono ?_); rintro e w1 ⟨rfl, hb⟩; have s1 := HST.out.over hb; obtain ⟨⟨a0, a1, a2, a3⟩, ⟨c0, c1, c2, c3⟩⟩ := CA.out _ s1)
    | (go_at_call 10; (with_reducible refine (L1 _).out.mono ?_); rintro e w2 ⟨rfl, hb⟩; have s2 := s1.over hb; obtain ⟨⟨a0, a1, a2, a3⟩, ⟨c0, c1, c2, c3⟩⟩ := CA.out _ s2)
    | (go_at_call 10; (with_reducible refine (L2 _).out.mono ?_); rintro e w3 ⟨rfl, hb⟩; have s3 := s2.over hb; obtain ⟨⟨a0, a1, a2, a3⟩, ⟨c0, c1, c2, c3⟩⟩ := CA.out _ s3))
  go_quiet (fail)
  go_wp2_with (go_at_call 11; (with_reducible refine (R1 _).out.mono ?_); rintro e w4 ⟨rfl, hb⟩; have s4 := s3.overD hb; have s5 := s4.grow (.cells #[.int .i64 p.k, .int .i64 p.id, .int .i64 p.tx, .string p.body] 23); have n5 := new_page w4 #[.int .i64 p.k, .int .i64 p.id, .int .i64 p.tx, .string p.body]; obtain ⟨d0, d1, d2, d3⟩ := four n5; obtain ⟨⟨a0, a1, a2, a3⟩, ⟨c0, c1, c2, c3⟩⟩ := CA.out _ s5)
  go_ret
  exact ⟨rfl, CB.out _ s5⟩

set_option maxRecDepth 100000 in
set_option maxHeartbeats 4000000 in
theorem torn_second (w : World) (p q : Pg) (c : Nat) (h1 : p.body.size ≤ 300) (h2 : q.body.size ≤ 300) (hp : p.ok) (hq : q.ok) (hd : p.tx % 4294967296 ≠ q.tx % 4294967296) (hc : c ≤ 256) (hS : (p.sector.extract 0 c ++ q.sector.extract c q.sector.size) = q.sector) (hN : (p.sector.extract 0 c ++ q.sector.extract c q.sector.size) ≠ p.sector) :
    Calls Try.prog 4 #[p.v, q.v, .int .i64 c] w fun r w' => r = .returned (.bool true) ∧ Below w.heap.size w w' := by
  have K := fun w' => Lib.hid (alive_any5 w')
  have k1 : decide ((300 : Int) < (p.body.size : Int)) = false := decide_eq_false (by omega)
  have k1' : decide (300 < p.body.size) = false := decide_eq_false (by omega)
  have k2 : decide ((300 : Int) < (q.body.size : Int)) = false := decide_eq_false (by omega)
  have k2' : decide (300 < q.body.size) = false := decide_eq_false (by omega)
  have HST := Lib.hid (TSt.start w p q)
  have CA := Lib.hid (show ∀ W, TSt w w.heap.size (w.heap.size + 1) p q W → _ ∧ _ from fun W hW => ⟨hW.a, hW.b⟩)
  have CB := Lib.hid (show ∀ W, TSt w w.heap.size (w.heap.size + 1) p q W → Below w.heap.size w W from fun W hW => hW.below)
  unfold PCells at CA
  have L1 := fun W => Lib.hid (lay_ok W p hp)
  have L2 := fun W => Lib.hid (lay_ok W q hq)
  have f3 : (p.tx % 4294967296 == q.tx % 4294967296) = false := by simpa using hd
  have f4 : decide ((c : Int) < 0) = false := decide_eq_false (by omega)
  have f5 : decide ((256 : Int) < (c : Int)) = false := decide_eq_false (by omega)
  have f5' : decide (256 < c) = false := decide_eq_false (by omega)
  have z1 := p.sector_size hp
  have z2 := q.sector_size hq
  have y1 : ((p.sector.size : Int) != 256) = false := by simp; omega
  have y2 : ((q.sector.size : Int) != 256) = false := by simp; omega
  have y3 : (0 : Int) ≤ (c : Int) := by omega
  have y4 : (c : Int) ≤ (p.sector.size : Int) := by omega
  have y5 : (c : Int) ≤ (q.sector.size : Int) := by omega
  have y6 : ¬ 9223372036854775807 < (p.sector.extract 0 c).size + (q.sector.extract c q.sector.size).size := by rw [ByteArray.size_extract, ByteArray.size_extract]; omega
  have R1 := fun W => Lib.hid (show Calls Try.prog 11 #[.string (p.sector.extract 0 c ++ q.sector.extract c q.sector.size)] W fun r w' => r = .returned (.tuple #[q.v, .int .i64 0]) ∧ Below W.heap.size W w' from by rw [hS]; exact read_sector W q hq)
  have E1 := fun W : World => page_eql W q q
  rw [Pg.same_self] at E1
  have e1 := same_true hS
  have e2 := same_false hN
  clear hS hN
  generalize p.sector = S1 at *
  generalize q.sector = S2 at *
  have y6' := y6
  simp only [ByteArray.size_extract] at y6'
  unfold Pg.v Pg.cells at *
  clear h1 h2 hp hq hd hc z1 z2
  go_enter Try.func4, Try.ntmps4
  go_wp2_with (first
    | (go_at_call 7; (with_reducible refine (K _).out.mono ?_); rintro e w1 ⟨rfl, hb⟩; have s1 := HST.out.over hb; obtain ⟨⟨a0, a1, a2, a3⟩, ⟨c0, c1, c2, c3⟩⟩ := CA.out _ s1)
    | (go_at_call 10; (with_reducible refine (L1 _).out.mono ?_); rintro e w2 ⟨rfl, hb⟩; have s2 := s1.over hb; obtain ⟨⟨a0, a1, a2, a3⟩, ⟨c0, c1, c2, c3⟩⟩ := CA.out _ s2)
    | (go_at_call 10; (with_reducible refine (L2 _).out.mono ?_); rintro e w3 ⟨rfl, hb⟩; have s3 := s2.over hb; obtain ⟨⟨a0, a1, a2, a3⟩, ⟨c0, c1, c2, c3⟩⟩ := CA.out _ s3))
  go_quiet (fail)
  go_wp2_with (go_at_call 11; (with_reducible refine (R1 _).out.mono ?_); rintro e w4 ⟨rfl, hb⟩; have s4 := s3.overD hb; have s5 := s4.grow (.cells #[.int .i64 q.k, .int .i64 q.id, .int .i64 q.tx, .string q.body] 23); have n5 := new_page w4 #[.int .i64 q.k, .int .i64 q.id, .int .i64 q.tx, .string q.body]; obtain ⟨d0, d1, d2, d3⟩ := four n5; obtain ⟨⟨a0, a1, a2, a3⟩, ⟨c0, c1, c2, c3⟩⟩ := CA.out _ s5)
  go_ret
  exact ⟨rfl, CB.out _ s5⟩

set_option maxRecDepth 100000 in
set_option maxHeartbeats 4000000 in
theorem torn_form (w : World) (p q : Pg) (c : Nat) (h1 : p.body.size ≤ 300) (h2 : q.body.size ≤ 300) (hp : p.ok) (hq : q.ok) (hd : p.tx % 4294967296 ≠ q.tx % 4294967296) (hc : c ≤ 256) (hR : readP (p.sector.extract 0 c ++ q.sector.extract c q.sector.size) = Pg.zero) (hE : readE (p.sector.extract 0 c ++ q.sector.extract c q.sector.size) = 6) :
    Calls Try.prog 4 #[p.v, q.v, .int .i64 c] w fun r w' => r = .returned (.bool true) ∧ Below w.heap.size w w' := by
  have K := fun w' => Lib.hid (alive_any5 w')
  have k1 : decide ((300 : Int) < (p.body.size : Int)) = false := decide_eq_false (by omega)
  have k1' : decide (300 < p.body.size) = false := decide_eq_false (by omega)
  have k2 : decide ((300 : Int) < (q.body.size : Int)) = false := decide_eq_false (by omega)
  have k2' : decide (300 < q.body.size) = false := decide_eq_false (by omega)
  have HST := Lib.hid (TSt.start w p q)
  have CA := Lib.hid (show ∀ W, TSt w w.heap.size (w.heap.size + 1) p q W → _ ∧ _ from fun W hW => ⟨hW.a, hW.b⟩)
  have CB := Lib.hid (show ∀ W, TSt w w.heap.size (w.heap.size + 1) p q W → Below w.heap.size w W from fun W hW => hW.below)
  unfold PCells at CA
  have L1 := fun W => Lib.hid (lay_ok W p hp)
  have L2 := fun W => Lib.hid (lay_ok W q hq)
  have f3 : (p.tx % 4294967296 == q.tx % 4294967296) = false := by simpa using hd
  have f4 : decide ((c : Int) < 0) = false := decide_eq_false (by omega)
  have f5 : decide ((256 : Int) < (c : Int)) = false := decide_eq_false (by omega)
  have f5' : decide (256 < c) = false := decide_eq_false (by omega)
  have z1 := p.sector_size hp
  have z2 := q.sector_size hq
  have y1 : ((p.sector.size : Int) != 256) = false := by simp; omega
  have y2 : ((q.sector.size : Int) != 256) = false := by simp; omega
  have y3 : (0 : Int) ≤ (c : Int) := by omega
  have y4 : (c : Int) ≤ (p.sector.size : Int) := by omega
  have y5 : (c : Int) ≤ (q.sector.size : Int) := by omega
  have y6 : ¬ 9223372036854775807 < (p.sector.extract 0 c).size + (q.sector.extract c q.sector.size).size := by rw [ByteArray.size_extract, ByteArray.size_extract]; omega
  have R1 := fun W => Lib.hid (show Calls Try.prog 11 #[.string (p.sector.extract 0 c ++ q.sector.extract c q.sector.size)] W fun r w' => r = .returned (.tuple #[Pg.zero.v, .int .i64 6]) ∧ Below W.heap.size W w' from by have H := read_any W (p.sector.extract 0 c ++ q.sector.extract c q.sector.size); rw [hR, hE] at H; exact H)
  have E1 := fun W : World => page_eql W Pg.zero Pg.zero
  rw [Pg.same_self] at E1
  clear hR hE
  generalize p.sector = S1 at *
  generalize q.sector = S2 at *
  have y6' := y6
  simp only [ByteArray.size_extract] at y6'
  unfold Pg.v Pg.cells at *
  rw [show Pg.zero.k = 0 from rfl, show Pg.zero.id = 0 from rfl, show Pg.zero.tx = 0 from rfl, show Pg.zero.body = ⟨#[]⟩ from rfl] at *
  clear h1 h2 hp hq hd hc z1 z2
  go_enter Try.func4, Try.ntmps4
  go_wp2_with (first
    | (go_at_call 7; (with_reducible refine (K _).out.mono ?_); rintro e w1 ⟨rfl, hb⟩; have s1 := HST.out.over hb; obtain ⟨⟨a0, a1, a2, a3⟩, ⟨c0, c1, c2, c3⟩⟩ := CA.out _ s1)
    | (go_at_call 10; (with_reducible refine (L1 _).out.mono ?_); rintro e w2 ⟨rfl, hb⟩; have s2 := s1.over hb; obtain ⟨⟨a0, a1, a2, a3⟩, ⟨c0, c1, c2, c3⟩⟩ := CA.out _ s2)
    | (go_at_call 10; (with_reducible refine (L2 _).out.mono ?_); rintro e w3 ⟨rfl, hb⟩; have s3 := s2.over hb; obtain ⟨⟨a0, a1, a2, a3⟩, ⟨c0, c1, c2, c3⟩⟩ := CA.out _ s3))
  go_quiet (fail)
  go_wp2_with (go_at_call 11; (with_reducible refine (R1 _).out.mono ?_); rintro e w4 ⟨rfl, hb⟩; have s4 := s3.overD hb; have s5 := s4.grow (.cells #[.int .i64 0, .int .i64 0, .int .i64 0, .string ⟨#[]⟩] 23); have n5 := new_page w4 #[.int .i64 0, .int .i64 0, .int .i64 0, .string ⟨#[]⟩]; obtain ⟨d0, d1, d2, d3⟩ := four n5; obtain ⟨⟨a0, a1, a2, a3⟩, ⟨c0, c1, c2, c3⟩⟩ := CA.out _ s5)
  go_ret
  exact ⟨rfl, CB.out _ s5⟩

set_option maxRecDepth 100000 in
set_option maxHeartbeats 4000000 in
theorem torn_sum (w : World) (p q : Pg) (c : Nat) (h1 : p.body.size ≤ 300) (h2 : q.body.size ≤ 300) (hp : p.ok) (hq : q.ok) (hd : p.tx % 4294967296 ≠ q.tx % 4294967296) (hc : c ≤ 256) (hR : readP (p.sector.extract 0 c ++ q.sector.extract c q.sector.size) = Pg.zero) (hE : readE (p.sector.extract 0 c ++ q.sector.extract c q.sector.size) = 7) :
    Calls Try.prog 4 #[p.v, q.v, .int .i64 c] w fun r w' => r = .returned (.bool true) ∧ Below w.heap.size w w' := by
  have K := fun w' => Lib.hid (alive_any5 w')
  have k1 : decide ((300 : Int) < (p.body.size : Int)) = false := decide_eq_false (by omega)
  have k1' : decide (300 < p.body.size) = false := decide_eq_false (by omega)
  have k2 : decide ((300 : Int) < (q.body.size : Int)) = false := decide_eq_false (by omega)
  have k2' : decide (300 < q.body.size) = false := decide_eq_false (by omega)
  have HST := Lib.hid (TSt.start w p q)
  have CA := Lib.hid (show ∀ W, TSt w w.heap.size (w.heap.size + 1) p q W → _ ∧ _ from fun W hW => ⟨hW.a, hW.b⟩)
  have CB := Lib.hid (show ∀ W, TSt w w.heap.size (w.heap.size + 1) p q W → Below w.heap.size w W from fun W hW => hW.below)
  unfold PCells at CA
  have L1 := fun W => Lib.hid (lay_ok W p hp)
  have L2 := fun W => Lib.hid (lay_ok W q hq)
  have f3 : (p.tx % 4294967296 == q.tx % 4294967296) = false := by simpa using hd
  have f4 : decide ((c : Int) < 0) = false := decide_eq_false (by omega)
  have f5 : decide ((256 : Int) < (c : Int)) = false := decide_eq_false (by omega)
  have f5' : decide (256 < c) = false := decide_eq_false (by omega)
  have z1 := p.sector_size hp
  have z2 := q.sector_size hq
  have y1 : ((p.sector.size : Int) != 256) = false := by simp; omega
  have y2 : ((q.sector.size : Int) != 256) = false := by simp; omega
  have y3 : (0 : Int) ≤ (c : Int) := by omega
  have y4 : (c : Int) ≤ (p.sector.size : Int) := by omega
  have y5 : (c : Int) ≤ (q.sector.size : Int) := by omega
  have y6 : ¬ 9223372036854775807 < (p.sector.extract 0 c).size + (q.sector.extract c q.sector.size).size := by rw [ByteArray.size_extract, ByteArray.size_extract]; omega
  have R1 := fun W => Lib.hid (show Calls Try.prog 11 #[.string (p.sector.extract 0 c ++ q.sector.extract c q.sector.size)] W fun r w' => r = .returned (.tuple #[Pg.zero.v, .int .i64 7]) ∧ Below W.heap.size W w' from by have H := read_any W (p.sector.extract 0 c ++ q.sector.extract c q.sector.size); rw [hR, hE] at H; exact H)
  have E1 := fun W : World => page_eql W Pg.zero Pg.zero
  rw [Pg.same_self] at E1
  clear hR hE
  generalize p.sector = S1 at *
  generalize q.sector = S2 at *
  have y6' := y6
  simp only [ByteArray.size_extract] at y6'
  unfold Pg.v Pg.cells at *
  rw [show Pg.zero.k = 0 from rfl, show Pg.zero.id = 0 from rfl, show Pg.zero.tx = 0 from rfl, show Pg.zero.body = ⟨#[]⟩ from rfl] at *
  clear h1 h2 hp hq hd hc z1 z2
  go_enter Try.func4, Try.ntmps4
  go_wp2_with (first
    | (go_at_call 7; (with_reducible refine (K _).out.mono ?_); rintro e w1 ⟨rfl, hb⟩; have s1 := HST.out.over hb; obtain ⟨⟨a0, a1, a2, a3⟩, ⟨c0, c1, c2, c3⟩⟩ := CA.out _ s1)
    | (go_at_call 10; (with_reducible refine (L1 _).out.mono ?_); rintro e w2 ⟨rfl, hb⟩; have s2 := s1.over hb; obtain ⟨⟨a0, a1, a2, a3⟩, ⟨c0, c1, c2, c3⟩⟩ := CA.out _ s2)
    | (go_at_call 10; (with_reducible refine (L2 _).out.mono ?_); rintro e w3 ⟨rfl, hb⟩; have s3 := s2.over hb; obtain ⟨⟨a0, a1, a2, a3⟩, ⟨c0, c1, c2, c3⟩⟩ := CA.out _ s3))
  go_quiet (fail)
  go_wp2_with (go_at_call 11; (with_reducible refine (R1 _).out.mono ?_); rintro e w4 ⟨rfl, hb⟩; have s4 := s3.overD hb; have s5 := s4.grow (.cells #[.int .i64 0, .int .i64 0, .int .i64 0, .string ⟨#[]⟩] 23); have n5 := new_page w4 #[.int .i64 0, .int .i64 0, .int .i64 0, .string ⟨#[]⟩]; obtain ⟨d0, d1, d2, d3⟩ := four n5; obtain ⟨⟨a0, a1, a2, a3⟩, ⟨c0, c1, c2, c3⟩⟩ := CA.out _ s5)
  go_ret
  exact ⟨rfl, CB.out _ s5⟩

theorem torn_walk (w : World) (p q : Pg) (c : Int) :
    Calls Try.prog 4 #[p.v, q.v, .int .i64 c] w fun r w' => r = .returned (.bool true) ∧ Below w.heap.size w w' := by
  by_cases h : p.body.size ≤ 300 ∧ q.body.size ≤ 300
  · obtain ⟨h1, h2⟩ := h
    by_cases g : p.ok ∧ q.ok ∧ p.tx % 4294967296 ≠ q.tx % 4294967296 ∧ 0 ≤ c ∧ c ≤ 256
    · obtain ⟨hp, hq, hd, h0, hc⟩ := g
      obtain ⟨c, rfl⟩ := Int.eq_ofNat_of_zero_le h0
      have hc' : c ≤ 256 := by omega
      have z1 := p.sector_size hp
      have z2 := q.sector_size hq
      have hz : (p.sector.extract 0 c ++ q.sector.extract c q.sector.size).size = 256 := by rw [size_app, ByteArray.size_extract, ByteArray.size_extract]; omega
      have hl : (p.sector.extract 0 c ++ q.sector.extract c q.sector.size).data.toList = p.laid.take c ++ q.laid.drop c := by
        rw [text_app, Lib.extract_data, Nat.sub_zero, List.drop_zero, from_at, Pg.sector, Pg.sector, str_list, str_list]
      by_cases hx : ∃ x : Pg, x.ok ∧ p.sector.extract 0 c ++ q.sector.extract c q.sector.size = x.sector
      · obtain ⟨x, hxo, hxe⟩ := hx
        have hxl : x.laid = p.laid.take c ++ q.laid.drop c := by rw [← hl, hxe, Pg.sector, str_list]
        have hdn : p.tx.toNat % 4294967296 ≠ q.tx.toNat % 4294967296 := fun e => hd (by
          have a1 := hp.2.2.2.2.1
          have a2 := hq.2.2.2.2.1
          omega)
        by_cases hS : p.sector.extract 0 c ++ q.sector.extract c q.sector.size = p.sector
        · exact torn_first w p q c h1 h2 hp hq hd hc' hS
        · rcases torn_one hp hq hxo hdn hxl with e | e
          · exact absurd (by rw [hxe, Pg.sector, Pg.sector, e]) hS
          · exact torn_second w p q c h1 h2 hp hq hd hc' (by rw [hxe, Pg.sector, Pg.sector, e]) hS
      · obtain ⟨e1, e2⟩ := read_no hz (fun x hxo hxe => hx ⟨x, hxo, hxe⟩)
        rcases e2 with e2 | e2
        · exact torn_form w p q c h1 h2 hp hq hd hc' e1 e2
        · exact torn_sum w p q c h1 h2 hp hq hd hc' e1 e2
    · exact torn_out w p q c h1 h2 g
  · exact torn_skip w p q c h

end Go.Proofs.Ytcoaabplhkmpfaa.P5
