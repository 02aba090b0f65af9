/-
  The reference's Choose, by contract. (Written by gen_meta14.py.)
-/
import Derived.Test.YtnmklhajpcnkoaaMt12
import Derived.Test.YtnmklhajpcnkoaaMt13
namespace Go.Proofs.Ytnmklhajpcnkoaa.P6
open Go Go.RowKit Go.Lib Go.Proofs.Ytnmklhajpcnkoaa.P0 Go.Proofs.Ytnmklhajpcnkoaa.P2 Go.Proofs.Ytnmklhajpcnkoaa.P5

theorem stand_yes {b : ByteArray} {c : Int} (h : readR b = 0) (hc : (readM b).tx % 2 = c) : standM b c = readM b := if_pos ⟨h, hc⟩
theorem stand_no {b : ByteArray} {c : Int} (h : ¬ (readR b = 0 ∧ (readM b).tx % 2 = c)) : standM b c = Mt.zero := if_neg h
theorem same_zero {m : Mt} (h : 1 ≤ m.tx) : m.same Mt.zero = false := Mt.same_ne (fun e => by rw [e] at h; exact absurd h (by decide))
theorem ch_x {a b : ByteArray} {X : Mt} (h : standM a 0 = X) (h1 : 1 ≤ X.tx) (h2 : ¬ X.tx < (standM b 1).tx) : chM a b = X ∧ chE a b = 0 := by
  have e : chM a b = X := by unfold chM; rw [h, if_neg h2]
  refine ⟨e, ?_⟩
  unfold chE
  rw [e, same_zero h1, if_neg (by decide)]
theorem ch_y {a b : ByteArray} {Y : Mt} (h : standM b 1 = Y) (h1 : 1 ≤ Y.tx) (h2 : (standM a 0).tx < Y.tx) : chM a b = Y ∧ chE a b = 0 := by
  have e : chM a b = Y := by unfold chM; rw [h, if_pos h2]
  refine ⟨e, ?_⟩
  unfold chE
  rw [e, same_zero h1, if_neg (by decide)]
theorem ch_none {a b : ByteArray} (h : standM a 0 = Mt.zero) (h2 : standM b 1 = Mt.zero) : chM a b = Mt.zero ∧ chE a b = 25 := by
  have e : chM a b = Mt.zero := by unfold chM; rw [h, h2, if_neg (by decide)]
  refine ⟨e, ?_⟩
  unfold chE
  rw [e, Mt.same_self, if_pos rfl]
theorem Bks.drewN {w0 : World} {l : List (Nat × Array Value × TypeId)} {w : World} (h : Bks w0 l w) (n : Nat) : Bks w0 l (w.drewN n) :=
  ⟨h.have_, ⟨h.below.os, h.below.tape, h.below.output, h.below.size, h.below.block⟩⟩
theorem rbks_three (w : World) (x y : Mt) (w1 w2 : World) (h1 : Below (w.alloc (.cells Mt.zero.cells 29)).heap.size (w.alloc (.cells Mt.zero.cells 29)) w1) (h2 : Below (w1.alloc (.cells x.cells 29)).heap.size (w1.alloc (.cells x.cells 29)) w2) :
    Bks w [(w2.heap.size, y.cells, 29), (w1.heap.size, x.cells, 29), (w.heap.size, Mt.zero.cells, 29)] (w2.alloc (.cells y.cells 29)) :=
  (((((Bks.nil w).new Mt.zero.cells 29).over h1).new x.cells 29).over h2).new _ _

set_option maxRecDepth 100000 in
set_option maxHeartbeats 8000000 in
theorem rchoose_any (w : World) (a b : ByteArray) :
    Calls Try.prog 16 #[.string a, .string b] w fun r w' => r = .returned (.tuple #[(chM a b).v, .int .i64 (chE a b)]) ∧ Below w.heap.size w w' := by
  have HA := fun W => Lib.hid (rmread_any W a)
  have HB := fun W => Lib.hid (rmread_any W b)
  have OA : readR a = 0 → 1 ≤ (readM a).tx ∧ (readM a).tx ≤ 1099511627776 := fun h => by
    obtain ⟨m, hm, _, e⟩ := meta_there h
    have := m.ok_range hm
    rw [e]; omega
  have OB : readR b = 0 → 1 ≤ (readM b).tx ∧ (readM b).tx ≤ 1099511627776 := fun h => by
    obtain ⟨m, hm, _, e⟩ := meta_there h
    have := m.ok_range hm
    rw [e]; omega
  have HM := Lib.hid (fun w1 w2 h1 h2 => rbks_three w (readM a) (readM b) w1 w2 h1 h2)
  have Z0 : Mt.zero.tx = 0 := rfl
  have HD := Lib.hid (show ∀ l W n, Bks w l W → Bks w l (W.drewN n) from fun l W n k => k.drewN n)
  by_cases h1 : readR a = 0
  · skip
    have ea : (readR a == 0) = true := by simp [h1]
    have oa := OA h1
    by_cases h2 : (readM a).tx % 2 = 0
    · skip
      have pa : ((readM a).tx % 2 == 0) = true := by simp; omega
      have pat : ((readM a).tx.tmod 2 == 0) = true := by rw [Int.tmod_eq_emod_of_nonneg (by omega)]; simp; omega
      have par : (readM a).tx.tmod 2 = (readM a).tx % 2 := Int.tmod_eq_emod_of_nonneg (by omega)
      have sa : standM a 0 = readM a := stand_yes h1 h2
      by_cases h3 : readR b = 0
      · skip
        have eb : (readR b == 0) = true := by simp [h3]
        have ob := OB h3
        by_cases h4 : (readM b).tx % 2 = 1
        · skip
          have pb : ((readM b).tx % 2 == 1) = true := by simp; omega
          have pbt : ((readM b).tx.tmod 2 == 1) = true := by rw [Int.tmod_eq_emod_of_nonneg (by omega)]; simp; omega
          have pbr : (readM b).tx.tmod 2 = (readM b).tx % 2 := Int.tmod_eq_emod_of_nonneg (by omega)
          have sb : standM b 1 = readM b := stand_yes h3 h4
          by_cases h5 : (readM b).tx < (readM a).tx
          · skip
            have gt : decide ((readM b).tx < (readM a).tx) = true := decide_eq_true h5
            obtain ⟨e1, e2⟩ : chM a b = readM a ∧ chE a b = 0 := ch_x sa oa.1 (by rw [sb]; omega)
            rw [e1, e2]
            (try clear oa); (try clear ob); clear e1 e2 OA OB Z0 sa sb h1 h2 h3 h4 h5
            generalize readM a = x at *
            generalize readM b = y at *
            generalize readR a = ea at *
            generalize readR b = eb at *
            obtain ⟨x0, x1, x2, x3⟩ := x
            obtain ⟨y0, y1, y2, y3⟩ := y
            try simp only at *
            have HQ := Lib.hid (show ∀ w1 w2, _ → _ → _ ∧ _ ∧ _ ∧ _ from fun w1 w2 h1 h2 => (have q := HM.out w1 w2 h1 h2; And.intro (cells4 (q.at_ 0 rfl)) (And.intro (cells4 (q.at_ 1 rfl)) (And.intro (cells4 (q.at_ 2 rfl)) (free4 (q.at_ 2 rfl))))))
            unfold Mt.v Mt.cells Mt.zero at *
            go_enter Try.func16, Try.ntmps16
            go_wp2_with (first
              | (go_at_call 14; (with_reducible refine (HA _).out.mono ?_); rintro e1 w1 ⟨rfl, hb1⟩)
              | (go_at_call 14; (with_reducible refine (HB _).out.mono ?_); rintro e2 w2 ⟨rfl, hb2⟩; obtain ⟨⟨a0, a1, a2, a3⟩, ⟨c0, c1, c2, c3⟩, ⟨d0, d1, d2, d3⟩, g0, g1, g2, g3⟩ := HQ.out _ _ hb1 hb2))
            go_quiet (fail)
            go_wp2
            obtain ⟨q1, q2⟩ := (HD.out _ _ nq (HM.out _ _ hb1 hb2)).fill 2 rfl (.int .i64 x0) (.int .i64 x1) (.int .i64 x2) (.int .i64 x3)
            exact bodyPost_ret (rmeta_result rfl _ _ w.heap.size _ rfl q1 rfl) rfl ⟨rfl, q2⟩
          · skip
            have gt : decide ((readM b).tx < (readM a).tx) = false := decide_eq_false h5
            obtain ⟨e1, e2⟩ : chM a b = readM b ∧ chE a b = 0 := ch_y sb ob.1 (by rw [sa]; omega)
            rw [e1, e2]
            (try clear oa); (try clear ob); clear e1 e2 OA OB Z0 sa sb h1 h2 h3 h4 h5
            generalize readM a = x at *
            generalize readM b = y at *
            generalize readR a = ea at *
            generalize readR b = eb at *
            obtain ⟨x0, x1, x2, x3⟩ := x
            obtain ⟨y0, y1, y2, y3⟩ := y
            try simp only at *
            have HQ := Lib.hid (show ∀ w1 w2, _ → _ → _ ∧ _ ∧ _ ∧ _ from fun w1 w2 h1 h2 => (have q := HM.out w1 w2 h1 h2; And.intro (cells4 (q.at_ 0 rfl)) (And.intro (cells4 (q.at_ 1 rfl)) (And.intro (cells4 (q.at_ 2 rfl)) (free4 (q.at_ 2 rfl))))))
            unfold Mt.v Mt.cells Mt.zero at *
            go_enter Try.func16, Try.ntmps16
            go_wp2_with (first
              | (go_at_call 14; (with_reducible refine (HA _).out.mono ?_); rintro e1 w1 ⟨rfl, hb1⟩)
              | (go_at_call 14; (with_reducible refine (HB _).out.mono ?_); rintro e2 w2 ⟨rfl, hb2⟩; obtain ⟨⟨a0, a1, a2, a3⟩, ⟨c0, c1, c2, c3⟩, ⟨d0, d1, d2, d3⟩, g0, g1, g2, g3⟩ := HQ.out _ _ hb1 hb2))
            go_quiet (fail)
            go_wp2
            obtain ⟨q1, q2⟩ := (HD.out _ _ nq (HM.out _ _ hb1 hb2)).fill 2 rfl (.int .i64 y0) (.int .i64 y1) (.int .i64 y2) (.int .i64 y3)
            exact bodyPost_ret (rmeta_result rfl _ _ w.heap.size _ rfl q1 rfl) rfl ⟨rfl, q2⟩
        · skip
          have pb : ((readM b).tx % 2 == 1) = false := by simp; omega
          have pbt : ((readM b).tx.tmod 2 == 1) = false := by rw [Int.tmod_eq_emod_of_nonneg (by omega)]; simp; omega
          have pbr : (readM b).tx.tmod 2 = (readM b).tx % 2 := Int.tmod_eq_emod_of_nonneg (by omega)
          have sb : standM b 1 = Mt.zero := stand_no (fun k => h4 k.2)
          obtain ⟨e1, e2⟩ : chM a b = readM a ∧ chE a b = 0 := ch_x sa oa.1 (by rw [sb, Z0]; omega)
          rw [e1, e2]
          (try clear oa); (try clear ob); clear e1 e2 OA OB Z0 sa sb h1 h2 h3 h4
          generalize readM a = x at *
          generalize readM b = y at *
          generalize readR a = ea at *
          generalize readR b = eb at *
          obtain ⟨x0, x1, x2, x3⟩ := x
          obtain ⟨y0, y1, y2, y3⟩ := y
          try simp only at *
          have HQ := Lib.hid (show ∀ w1 w2, _ → _ → _ ∧ _ ∧ _ ∧ _ from fun w1 w2 h1 h2 => (have q := HM.out w1 w2 h1 h2; And.intro (cells4 (q.at_ 0 rfl)) (And.intro (cells4 (q.at_ 1 rfl)) (And.intro (cells4 (q.at_ 2 rfl)) (free4 (q.at_ 2 rfl))))))
          unfold Mt.v Mt.cells Mt.zero at *
          go_enter Try.func16, Try.ntmps16
          go_wp2_with (first
            | (go_at_call 14; (with_reducible refine (HA _).out.mono ?_); rintro e1 w1 ⟨rfl, hb1⟩)
            | (go_at_call 14; (with_reducible refine (HB _).out.mono ?_); rintro e2 w2 ⟨rfl, hb2⟩; obtain ⟨⟨a0, a1, a2, a3⟩, ⟨c0, c1, c2, c3⟩, ⟨d0, d1, d2, d3⟩, g0, g1, g2, g3⟩ := HQ.out _ _ hb1 hb2))
          go_quiet (fail)
          go_wp2
          obtain ⟨q1, q2⟩ := (HD.out _ _ nq (HM.out _ _ hb1 hb2)).fill 2 rfl (.int .i64 x0) (.int .i64 x1) (.int .i64 x2) (.int .i64 x3)
          exact bodyPost_ret (rmeta_result rfl _ _ w.heap.size _ rfl q1 rfl) rfl ⟨rfl, q2⟩
      · skip
        have eb : (readR b == 0) = false := by simp [h3]
        have sb : standM b 1 = Mt.zero := stand_no (fun k => h3 k.1)
        obtain ⟨e1, e2⟩ : chM a b = readM a ∧ chE a b = 0 := ch_x sa oa.1 (by rw [sb, Z0]; omega)
        rw [e1, e2]
        (try clear oa); (try clear ob); clear e1 e2 OA OB Z0 sa sb h1 h2 h3
        generalize readM a = x at *
        generalize readM b = y at *
        generalize readR a = ea at *
        generalize readR b = eb at *
        obtain ⟨x0, x1, x2, x3⟩ := x
        obtain ⟨y0, y1, y2, y3⟩ := y
        try simp only at *
        have HQ := Lib.hid (show ∀ w1 w2, _ → _ → _ ∧ _ ∧ _ ∧ _ from fun w1 w2 h1 h2 => (have q := HM.out w1 w2 h1 h2; And.intro (cells4 (q.at_ 0 rfl)) (And.intro (cells4 (q.at_ 1 rfl)) (And.intro (cells4 (q.at_ 2 rfl)) (free4 (q.at_ 2 rfl))))))
        unfold Mt.v Mt.cells Mt.zero at *
        go_enter Try.func16, Try.ntmps16
        go_wp2_with (first
          | (go_at_call 14; (with_reducible refine (HA _).out.mono ?_); rintro e1 w1 ⟨rfl, hb1⟩)
          | (go_at_call 14; (with_reducible refine (HB _).out.mono ?_); rintro e2 w2 ⟨rfl, hb2⟩; obtain ⟨⟨a0, a1, a2, a3⟩, ⟨c0, c1, c2, c3⟩, ⟨d0, d1, d2, d3⟩, g0, g1, g2, g3⟩ := HQ.out _ _ hb1 hb2))
        go_quiet (fail)
        go_wp2
        obtain ⟨q1, q2⟩ := (HD.out _ _ nq (HM.out _ _ hb1 hb2)).fill 2 rfl (.int .i64 x0) (.int .i64 x1) (.int .i64 x2) (.int .i64 x3)
        exact bodyPost_ret (rmeta_result rfl _ _ w.heap.size _ rfl q1 rfl) rfl ⟨rfl, q2⟩
    · skip
      have pa : ((readM a).tx % 2 == 0) = false := by simp; omega
      have pat : ((readM a).tx.tmod 2 == 0) = false := by rw [Int.tmod_eq_emod_of_nonneg (by omega)]; simp; omega
      have par : (readM a).tx.tmod 2 = (readM a).tx % 2 := Int.tmod_eq_emod_of_nonneg (by omega)
      have sa : standM a 0 = Mt.zero := stand_no (fun k => h2 k.2)
      by_cases h3 : readR b = 0
      · skip
        have eb : (readR b == 0) = true := by simp [h3]
        have ob := OB h3
        by_cases h4 : (readM b).tx % 2 = 1
        · skip
          have pb : ((readM b).tx % 2 == 1) = true := by simp; omega
          have pbt : ((readM b).tx.tmod 2 == 1) = true := by rw [Int.tmod_eq_emod_of_nonneg (by omega)]; simp; omega
          have pbr : (readM b).tx.tmod 2 = (readM b).tx % 2 := Int.tmod_eq_emod_of_nonneg (by omega)
          have sb : standM b 1 = readM b := stand_yes h3 h4
          obtain ⟨e1, e2⟩ : chM a b = readM b ∧ chE a b = 0 := ch_y sb ob.1 (by rw [sa, Z0]; omega)
          rw [e1, e2]
          (try clear oa); (try clear ob); clear e1 e2 OA OB Z0 sa sb h1 h2 h3 h4
          generalize readM a = x at *
          generalize readM b = y at *
          generalize readR a = ea at *
          generalize readR b = eb at *
          obtain ⟨x0, x1, x2, x3⟩ := x
          obtain ⟨y0, y1, y2, y3⟩ := y
          try simp only at *
          have HQ := Lib.hid (show ∀ w1 w2, _ → _ → _ ∧ _ ∧ _ ∧ _ from fun w1 w2 h1 h2 => (have q := HM.out w1 w2 h1 h2; And.intro (cells4 (q.at_ 0 rfl)) (And.intro (cells4 (q.at_ 1 rfl)) (And.intro (cells4 (q.at_ 2 rfl)) (free4 (q.at_ 2 rfl))))))
          unfold Mt.v Mt.cells Mt.zero at *
          go_enter Try.func16, Try.ntmps16
          go_wp2_with (first
            | (go_at_call 14; (with_reducible refine (HA _).out.mono ?_); rintro e1 w1 ⟨rfl, hb1⟩)
            | (go_at_call 14; (with_reducible refine (HB _).out.mono ?_); rintro e2 w2 ⟨rfl, hb2⟩; obtain ⟨⟨a0, a1, a2, a3⟩, ⟨c0, c1, c2, c3⟩, ⟨d0, d1, d2, d3⟩, g0, g1, g2, g3⟩ := HQ.out _ _ hb1 hb2))
          go_quiet (fail)
          go_wp2
          obtain ⟨q1, q2⟩ := (HD.out _ _ nq (HM.out _ _ hb1 hb2)).fill 2 rfl (.int .i64 y0) (.int .i64 y1) (.int .i64 y2) (.int .i64 y3)
          exact bodyPost_ret (rmeta_result rfl _ _ w.heap.size _ rfl q1 rfl) rfl ⟨rfl, q2⟩
        · skip
          have pb : ((readM b).tx % 2 == 1) = false := by simp; omega
          have pbt : ((readM b).tx.tmod 2 == 1) = false := by rw [Int.tmod_eq_emod_of_nonneg (by omega)]; simp; omega
          have pbr : (readM b).tx.tmod 2 = (readM b).tx % 2 := Int.tmod_eq_emod_of_nonneg (by omega)
          have sb : standM b 1 = Mt.zero := stand_no (fun k => h4 k.2)
          obtain ⟨e1, e2⟩ : chM a b = Mt.zero ∧ chE a b = 25 := ch_none sa sb
          rw [e1, e2]
          (try clear oa); (try clear ob); clear e1 e2 OA OB Z0 sa sb h1 h2 h3 h4
          generalize readM a = x at *
          generalize readM b = y at *
          generalize readR a = ea at *
          generalize readR b = eb at *
          obtain ⟨x0, x1, x2, x3⟩ := x
          obtain ⟨y0, y1, y2, y3⟩ := y
          try simp only at *
          have HQ := Lib.hid (show ∀ w1 w2, _ → _ → _ ∧ _ ∧ _ ∧ _ from fun w1 w2 h1 h2 => (have q := HM.out w1 w2 h1 h2; And.intro (cells4 (q.at_ 0 rfl)) (And.intro (cells4 (q.at_ 1 rfl)) (And.intro (cells4 (q.at_ 2 rfl)) (free4 (q.at_ 2 rfl))))))
          unfold Mt.v Mt.cells Mt.zero at *
          go_enter Try.func16, Try.ntmps16
          go_wp2_with (first
            | (go_at_call 14; (with_reducible refine (HA _).out.mono ?_); rintro e1 w1 ⟨rfl, hb1⟩)
            | (go_at_call 14; (with_reducible refine (HB _).out.mono ?_); rintro e2 w2 ⟨rfl, hb2⟩; obtain ⟨⟨a0, a1, a2, a3⟩, ⟨c0, c1, c2, c3⟩, ⟨d0, d1, d2, d3⟩, g0, g1, g2, g3⟩ := HQ.out _ _ hb1 hb2))
          go_quiet (fail)
          go_wp2
          obtain ⟨q1, q2⟩ := (HD.out _ _ nq (HM.out _ _ hb1 hb2)).fill 2 rfl (.int .i64 0) (.int .i64 0) (.int .i64 0) (.int .i64 0)
          exact bodyPost_ret (rmeta_result rfl _ _ w.heap.size _ rfl q1 rfl) rfl ⟨rfl, q2⟩
      · skip
        have eb : (readR b == 0) = false := by simp [h3]
        have sb : standM b 1 = Mt.zero := stand_no (fun k => h3 k.1)
        obtain ⟨e1, e2⟩ : chM a b = Mt.zero ∧ chE a b = 25 := ch_none sa sb
        rw [e1, e2]
        (try clear oa); (try clear ob); clear e1 e2 OA OB Z0 sa sb h1 h2 h3
        generalize readM a = x at *
        generalize readM b = y at *
        generalize readR a = ea at *
        generalize readR b = eb at *
        obtain ⟨x0, x1, x2, x3⟩ := x
        obtain ⟨y0, y1, y2, y3⟩ := y
        try simp only at *
        have HQ := Lib.hid (show ∀ w1 w2, _ → _ → _ ∧ _ ∧ _ ∧ _ from fun w1 w2 h1 h2 => (have q := HM.out w1 w2 h1 h2; And.intro (cells4 (q.at_ 0 rfl)) (And.intro (cells4 (q.at_ 1 rfl)) (And.intro (cells4 (q.at_ 2 rfl)) (free4 (q.at_ 2 rfl))))))
        unfold Mt.v Mt.cells Mt.zero at *
        go_enter Try.func16, Try.ntmps16
        go_wp2_with (first
          | (go_at_call 14; (with_reducible refine (HA _).out.mono ?_); rintro e1 w1 ⟨rfl, hb1⟩)
          | (go_at_call 14; (with_reducible refine (HB _).out.mono ?_); rintro e2 w2 ⟨rfl, hb2⟩; obtain ⟨⟨a0, a1, a2, a3⟩, ⟨c0, c1, c2, c3⟩, ⟨d0, d1, d2, d3⟩, g0, g1, g2, g3⟩ := HQ.out _ _ hb1 hb2))
        go_quiet (fail)
        go_wp2
        obtain ⟨q1, q2⟩ := (HD.out _ _ nq (HM.out _ _ hb1 hb2)).fill 2 rfl (.int .i64 0) (.int .i64 0) (.int .i64 0) (.int .i64 0)
        exact bodyPost_ret (rmeta_result rfl _ _ w.heap.size _ rfl q1 rfl) rfl ⟨rfl, q2⟩
  · skip
    have ea : (readR a == 0) = false := by simp [h1]
    have sa : standM a 0 = Mt.zero := stand_no (fun k => h1 k.1)
    by_cases h2 : readR b = 0
    · skip
      have eb : (readR b == 0) = true := by simp [h2]
      have ob := OB h2
      by_cases h3 : (readM b).tx % 2 = 1
      · skip
        have pb : ((readM b).tx % 2 == 1) = true := by simp; omega
        have pbt : ((readM b).tx.tmod 2 == 1) = true := by rw [Int.tmod_eq_emod_of_nonneg (by omega)]; simp; omega
        have pbr : (readM b).tx.tmod 2 = (readM b).tx % 2 := Int.tmod_eq_emod_of_nonneg (by omega)
        have sb : standM b 1 = readM b := stand_yes h2 h3
        obtain ⟨e1, e2⟩ : chM a b = readM b ∧ chE a b = 0 := ch_y sb ob.1 (by rw [sa, Z0]; omega)
        rw [e1, e2]
        (try clear oa); (try clear ob); clear e1 e2 OA OB Z0 sa sb h1 h2 h3
        generalize readM a = x at *
        generalize readM b = y at *
        generalize readR a = ea at *
        generalize readR b = eb at *
        obtain ⟨x0, x1, x2, x3⟩ := x
        obtain ⟨y0, y1, y2, y3⟩ := y
        try simp only at *
        have HQ := Lib.hid (show ∀ w1 w2, _ → _ → _ ∧ _ ∧ _ ∧ _ from fun w1 w2 h1 h2 => (have q := HM.out w1 w2 h1 h2; And.intro (cells4 (q.at_ 0 rfl)) (And.intro (cells4 (q.at_ 1 rfl)) (And.intro (cells4 (q.at_ 2 rfl)) (free4 (q.at_ 2 rfl))))))
        unfold Mt.v Mt.cells Mt.zero at *
        go_enter Try.func16, Try.ntmps16
        go_wp2_with (first
          | (go_at_call 14; (with_reducible refine (HA _).out.mono ?_); rintro e1 w1 ⟨rfl, hb1⟩)
          | (go_at_call 14; (with_reducible refine (HB _).out.mono ?_); rintro e2 w2 ⟨rfl, hb2⟩; obtain ⟨⟨a0, a1, a2, a3⟩, ⟨c0, c1, c2, c3⟩, ⟨d0, d1, d2, d3⟩, g0, g1, g2, g3⟩ := HQ.out _ _ hb1 hb2))
        go_quiet (fail)
        go_wp2
        obtain ⟨q1, q2⟩ := (HD.out _ _ nq (HM.out _ _ hb1 hb2)).fill 2 rfl (.int .i64 y0) (.int .i64 y1) (.int .i64 y2) (.int .i64 y3)
        exact bodyPost_ret (rmeta_result rfl _ _ w.heap.size _ rfl q1 rfl) rfl ⟨rfl, q2⟩
      · skip
        have pb : ((readM b).tx % 2 == 1) = false := by simp; omega
        have pbt : ((readM b).tx.tmod 2 == 1) = false := by rw [Int.tmod_eq_emod_of_nonneg (by omega)]; simp; omega
        have pbr : (readM b).tx.tmod 2 = (readM b).tx % 2 := Int.tmod_eq_emod_of_nonneg (by omega)
        have sb : standM b 1 = Mt.zero := stand_no (fun k => h3 k.2)
        obtain ⟨e1, e2⟩ : chM a b = Mt.zero ∧ chE a b = 25 := ch_none sa sb
        rw [e1, e2]
        (try clear oa); (try clear ob); clear e1 e2 OA OB Z0 sa sb h1 h2 h3
        generalize readM a = x at *
        generalize readM b = y at *
        generalize readR a = ea at *
        generalize readR b = eb at *
        obtain ⟨x0, x1, x2, x3⟩ := x
        obtain ⟨y0, y1, y2, y3⟩ := y
        try simp only at *
        have HQ := Lib.hid (show ∀ w1 w2, _ → _ → _ ∧ _ ∧ _ ∧ _ from fun w1 w2 h1 h2 => (have q := HM.out w1 w2 h1 h2; And.intro (cells4 (q.at_ 0 rfl)) (And.intro (cells4 (q.at_ 1 rfl)) (And.intro (cells4 (q.at_ 2 rfl)) (free4 (q.at_ 2 rfl))))))
        unfold Mt.v Mt.cells Mt.zero at *
        go_enter Try.func16, Try.ntmps16
        go_wp2_with (first
          | (go_at_call 14; (with_reducible refine (HA _).out.mono ?_); rintro e1 w1 ⟨rfl, hb1⟩)
          | (go_at_call 14; (with_reducible refine (HB _).out.mono ?_); rintro e2 w2 ⟨rfl, hb2⟩; obtain ⟨⟨a0, a1, a2, a3⟩, ⟨c0, c1, c2, c3⟩, ⟨d0, d1, d2, d3⟩, g0, g1, g2, g3⟩ := HQ.out _ _ hb1 hb2))
        go_quiet (fail)
        go_wp2
        obtain ⟨q1, q2⟩ := (HD.out _ _ nq (HM.out _ _ hb1 hb2)).fill 2 rfl (.int .i64 0) (.int .i64 0) (.int .i64 0) (.int .i64 0)
        exact bodyPost_ret (rmeta_result rfl _ _ w.heap.size _ rfl q1 rfl) rfl ⟨rfl, q2⟩
    · skip
      have eb : (readR b == 0) = false := by simp [h2]
      have sb : standM b 1 = Mt.zero := stand_no (fun k => h2 k.1)
      obtain ⟨e1, e2⟩ : chM a b = Mt.zero ∧ chE a b = 25 := ch_none sa sb
      rw [e1, e2]
      (try clear oa); (try clear ob); clear e1 e2 OA OB Z0 sa sb h1 h2
      generalize readM a = x at *
      generalize readM b = y at *
      generalize readR a = ea at *
      generalize readR b = eb at *
      obtain ⟨x0, x1, x2, x3⟩ := x
      obtain ⟨y0, y1, y2, y3⟩ := y
      try simp only at *
      have HQ := Lib.hid (show ∀ w1 w2, _ → _ → _ ∧ _ ∧ _ ∧ _ from fun w1 w2 h1 h2 => (have q := HM.out w1 w2 h1 h2; And.intro (cells4 (q.at_ 0 rfl)) (And.intro (cells4 (q.at_ 1 rfl)) (And.intro (cells4 (q.at_ 2 rfl)) (free4 (q.at_ 2 rfl))))))
      unfold Mt.v Mt.cells Mt.zero at *
      go_enter Try.func16, Try.ntmps16
      go_wp2_with (first
        | (go_at_call 14; (with_reducible refine (HA _).out.mono ?_); rintro e1 w1 ⟨rfl, hb1⟩)
        | (go_at_call 14; (with_reducible refine (HB _).out.mono ?_); rintro e2 w2 ⟨rfl, hb2⟩; obtain ⟨⟨a0, a1, a2, a3⟩, ⟨c0, c1, c2, c3⟩, ⟨d0, d1, d2, d3⟩, g0, g1, g2, g3⟩ := HQ.out _ _ hb1 hb2))
      go_quiet (fail)
      go_wp2
      obtain ⟨q1, q2⟩ := (HD.out _ _ nq (HM.out _ _ hb1 hb2)).fill 2 rfl (.int .i64 0) (.int .i64 0) (.int .i64 0) (.int .i64 0)
      exact bodyPost_ret (rmeta_result rfl _ _ w.heap.size _ rfl q1 rfl) rfl ⟨rfl, q2⟩

end Go.Proofs.Ytnmklhajpcnkoaa.P6
