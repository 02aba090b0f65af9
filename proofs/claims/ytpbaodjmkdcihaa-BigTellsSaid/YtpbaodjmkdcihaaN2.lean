/-
  Package page's Valid, and the reference's ValidPage, by contracts.
-/
import Derived.Test.YtpbaodjmkdcihaaN0
namespace Go.Proofs.Ytpbaodjmkdcihaa.P11
open Go Go.RowKit Go.Lib Go.Proofs.Ytpbaodjmkdcihaa.PK

set_option maxHeartbeats 4000000 in
theorem valid_any (w : World) (p : Pg) :
    Calls Try.prog 19 #[p.v] w fun r w' => r = .returned (.bool (decide p.ok)) ∧ Below w.heap.size w w' := by
  obtain ⟨k, id, tx, body⟩ := p
  by_cases hk : k = 1 ∨ k = 2 ∨ k = 3 ∨ k = 4 ∨ k = 5
  · by_cases h0 : 0 ≤ id
    · by_cases h1 : id < 4000
      · by_cases h2 : 0 ≤ tx
        · by_cases h3 : tx ≤ 1099511627776
          · by_cases h4 : body.size ≤ 232
            · have e : decide (Pg.ok ⟨k, id, tx, body⟩) = true := decide_eq_true ⟨show (1 : Int) ≤ k by omega, show k ≤ 5 by omega, show (0 : Int) ≤ id by omega, show id < 4000 by omega, show (0 : Int) ≤ tx by omega, show tx ≤ 1099511627776 by omega, show body.size ≤ 232 by omega⟩
              rw [e]
              clear e
              have b0 : decide ((0 : Int) ≤ id) = true := decide_eq_true (by omega)
              have b1 : decide (id < 4000) = true := decide_eq_true (by omega)
              have b2 : decide ((0 : Int) ≤ tx) = true := decide_eq_true (by omega)
              have b3 : decide (tx ≤ 1099511627776) = true := decide_eq_true (by omega)
              have b4 : decide ((body.size : Int) ≤ 232) = true := decide_eq_true (by omega)
              have b4' : decide (body.size ≤ 232) = true := decide_eq_true (by omega)
              rcases hk with rfl | rfl | rfl | rfl | rfl
              all_goals
                unfold Pg.v
                go_enter Try.func19, Try.ntmps19
                go_wp2
                go_ret
                exact ⟨rfl, below_new _ _⟩
            · have e : decide (Pg.ok ⟨k, id, tx, body⟩) = false := decide_eq_false (fun h => by have := h.1; have := h.2.1; have := h.2.2.1; have := h.2.2.2.1; have := h.2.2.2.2.1; have := h.2.2.2.2.2.1; have := h.2.2.2.2.2.2; simp only at *; omega)
              rw [e]
              clear e
              have b0 : decide ((0 : Int) ≤ id) = true := decide_eq_true (by omega)
              have b1 : decide (id < 4000) = true := decide_eq_true (by omega)
              have b2 : decide ((0 : Int) ≤ tx) = true := decide_eq_true (by omega)
              have b3 : decide (tx ≤ 1099511627776) = true := decide_eq_true (by omega)
              have b4 : decide ((body.size : Int) ≤ 232) = false := decide_eq_false (by omega)
              have b4' : decide (body.size ≤ 232) = false := decide_eq_false (by omega)
              rcases hk with rfl | rfl | rfl | rfl | rfl
              all_goals
                unfold Pg.v
                go_enter Try.func19, Try.ntmps19
                go_wp2
                go_ret
                exact ⟨rfl, below_new _ _⟩
          · have e : decide (Pg.ok ⟨k, id, tx, body⟩) = false := decide_eq_false (fun h => by have := h.1; have := h.2.1; have := h.2.2.1; have := h.2.2.2.1; have := h.2.2.2.2.1; have := h.2.2.2.2.2.1; have := h.2.2.2.2.2.2; simp only at *; omega)
            rw [e]
            clear e
            have b0 : decide ((0 : Int) ≤ id) = true := decide_eq_true (by omega)
            have b1 : decide (id < 4000) = true := decide_eq_true (by omega)
            have b2 : decide ((0 : Int) ≤ tx) = true := decide_eq_true (by omega)
            have b3 : decide (tx ≤ 1099511627776) = false := decide_eq_false (by omega)
            rcases hk with rfl | rfl | rfl | rfl | rfl
            all_goals
              unfold Pg.v
              go_enter Try.func19, Try.ntmps19
              go_wp2
              go_ret
              exact ⟨rfl, below_new _ _⟩
        · have e : decide (Pg.ok ⟨k, id, tx, body⟩) = false := decide_eq_false (fun h => by have := h.1; have := h.2.1; have := h.2.2.1; have := h.2.2.2.1; have := h.2.2.2.2.1; have := h.2.2.2.2.2.1; have := h.2.2.2.2.2.2; simp only at *; omega)
          rw [e]
          clear e
          have b0 : decide ((0 : Int) ≤ id) = true := decide_eq_true (by omega)
          have b1 : decide (id < 4000) = true := decide_eq_true (by omega)
          have b2 : decide ((0 : Int) ≤ tx) = false := decide_eq_false (by omega)
          rcases hk with rfl | rfl | rfl | rfl | rfl
          all_goals
            unfold Pg.v
            go_enter Try.func19, Try.ntmps19
            go_wp2
            go_ret
            exact ⟨rfl, below_new _ _⟩
      · have e : decide (Pg.ok ⟨k, id, tx, body⟩) = false := decide_eq_false (fun h => by have := h.1; have := h.2.1; have := h.2.2.1; have := h.2.2.2.1; have := h.2.2.2.2.1; have := h.2.2.2.2.2.1; have := h.2.2.2.2.2.2; simp only at *; omega)
        rw [e]
        clear e
        have b0 : decide ((0 : Int) ≤ id) = true := decide_eq_true (by omega)
        have b1 : decide (id < 4000) = false := decide_eq_false (by omega)
        rcases hk with rfl | rfl | rfl | rfl | rfl
        all_goals
          unfold Pg.v
          go_enter Try.func19, Try.ntmps19
          go_wp2
          go_ret
          exact ⟨rfl, below_new _ _⟩
    · have e : decide (Pg.ok ⟨k, id, tx, body⟩) = false := decide_eq_false (fun h => by have := h.1; have := h.2.1; have := h.2.2.1; have := h.2.2.2.1; have := h.2.2.2.2.1; have := h.2.2.2.2.2.1; have := h.2.2.2.2.2.2; simp only at *; omega)
      rw [e]
      clear e
      have b0 : decide ((0 : Int) ≤ id) = false := decide_eq_false (by omega)
      rcases hk with rfl | rfl | rfl | rfl | rfl
      all_goals
        unfold Pg.v
        go_enter Try.func19, Try.ntmps19
        go_wp2
        go_ret
        exact ⟨rfl, below_new _ _⟩
  · have e : decide (Pg.ok ⟨k, id, tx, body⟩) = false := decide_eq_false (fun h => by have := h.1; have := h.2.1; have := h.2.2.1; have := h.2.2.2.1; have := h.2.2.2.2.1; have := h.2.2.2.2.2.1; have := h.2.2.2.2.2.2; simp only at *; omega)
    rw [e]
    clear e
    have g1 : (k == 1) = false := by simp; omega
    have g2 : (k == 2) = false := by simp; omega
    have g3 : (k == 3) = false := by simp; omega
    have g4 : (k == 4) = false := by simp; omega
    have g5 : (k == 5) = false := by simp; omega
    clear hk
    unfold Pg.v
    go_enter Try.func19, Try.ntmps19
    go_wp2
    go_ret
    exact ⟨rfl, below_new _ _⟩

set_option maxHeartbeats 4000000 in
theorem rValid_any (w : World) (p : Pg) :
    Calls Try.prog 17 #[p.v] w fun r w' => r = .returned (.bool (decide p.ok)) ∧ Below w.heap.size w w' := by
  obtain ⟨k, id, tx, body⟩ := p
  by_cases hk : 1 ≤ k ∧ k ≤ 5
  · by_cases h0 : 0 ≤ id
    · by_cases h1 : id < 4000
      · by_cases h2 : 0 ≤ tx
        · by_cases h3 : tx ≤ 1099511627776
          · by_cases h4 : body.size ≤ 232
            · have e : decide (Pg.ok ⟨k, id, tx, body⟩) = true := decide_eq_true ⟨show (1 : Int) ≤ k by omega, show k ≤ 5 by omega, show (0 : Int) ≤ id by omega, show id < 4000 by omega, show (0 : Int) ≤ tx by omega, show tx ≤ 1099511627776 by omega, show body.size ≤ 232 by omega⟩
              rw [e]
              clear e
              have b0 : decide ((0 : Int) ≤ id) = true := decide_eq_true (by omega)
              have b1 : decide (id < 4000) = true := decide_eq_true (by omega)
              have b2 : decide ((0 : Int) ≤ tx) = true := decide_eq_true (by omega)
              have b3 : decide (tx ≤ 1099511627776) = true := decide_eq_true (by omega)
              have b4 : decide ((body.size : Int) ≤ 232) = true := decide_eq_true (by omega)
              have b4' : decide (body.size ≤ 232) = true := decide_eq_true (by omega)
              have g0 : decide ((1 : Int) ≤ k) = true := decide_eq_true (by omega)
              have g1 : decide (k ≤ 5) = true := decide_eq_true (by omega)
              clear hk
              unfold Pg.v
              go_enter Try.func17, Try.ntmps17
              go_wp2
              go_ret
              exact ⟨rfl, below_new _ _⟩
            · have e : decide (Pg.ok ⟨k, id, tx, body⟩) = false := decide_eq_false (fun h => by have := h.1; have := h.2.1; have := h.2.2.1; have := h.2.2.2.1; have := h.2.2.2.2.1; have := h.2.2.2.2.2.1; have := h.2.2.2.2.2.2; simp only at *; omega)
              rw [e]
              clear e
              have b0 : decide ((0 : Int) ≤ id) = true := decide_eq_true (by omega)
              have b1 : decide (id < 4000) = true := decide_eq_true (by omega)
              have b2 : decide ((0 : Int) ≤ tx) = true := decide_eq_true (by omega)
              have b3 : decide (tx ≤ 1099511627776) = true := decide_eq_true (by omega)
              have b4 : decide ((body.size : Int) ≤ 232) = false := decide_eq_false (by omega)
              have b4' : decide (body.size ≤ 232) = false := decide_eq_false (by omega)
              have g0 : decide ((1 : Int) ≤ k) = true := decide_eq_true (by omega)
              have g1 : decide (k ≤ 5) = true := decide_eq_true (by omega)
              clear hk
              unfold Pg.v
              go_enter Try.func17, Try.ntmps17
              go_wp2
              go_ret
              exact ⟨rfl, below_new _ _⟩
          · have e : decide (Pg.ok ⟨k, id, tx, body⟩) = false := decide_eq_false (fun h => by have := h.1; have := h.2.1; have := h.2.2.1; have := h.2.2.2.1; have := h.2.2.2.2.1; have := h.2.2.2.2.2.1; have := h.2.2.2.2.2.2; simp only at *; omega)
            rw [e]
            clear e
            have b0 : decide ((0 : Int) ≤ id) = true := decide_eq_true (by omega)
            have b1 : decide (id < 4000) = true := decide_eq_true (by omega)
            have b2 : decide ((0 : Int) ≤ tx) = true := decide_eq_true (by omega)
            have b3 : decide (tx ≤ 1099511627776) = false := decide_eq_false (by omega)
            have g0 : decide ((1 : Int) ≤ k) = true := decide_eq_true (by omega)
            have g1 : decide (k ≤ 5) = true := decide_eq_true (by omega)
            clear hk
            unfold Pg.v
            go_enter Try.func17, Try.ntmps17
            go_wp2
            go_ret
            exact ⟨rfl, below_new _ _⟩
        · have e : decide (Pg.ok ⟨k, id, tx, body⟩) = false := decide_eq_false (fun h => by have := h.1; have := h.2.1; have := h.2.2.1; have := h.2.2.2.1; have := h.2.2.2.2.1; have := h.2.2.2.2.2.1; have := h.2.2.2.2.2.2; simp only at *; omega)
          rw [e]
          clear e
          have b0 : decide ((0 : Int) ≤ id) = true := decide_eq_true (by omega)
          have b1 : decide (id < 4000) = true := decide_eq_true (by omega)
          have b2 : decide ((0 : Int) ≤ tx) = false := decide_eq_false (by omega)
          have g0 : decide ((1 : Int) ≤ k) = true := decide_eq_true (by omega)
          have g1 : decide (k ≤ 5) = true := decide_eq_true (by omega)
          clear hk
          unfold Pg.v
          go_enter Try.func17, Try.ntmps17
          go_wp2
          go_ret
          exact ⟨rfl, below_new _ _⟩
      · have e : decide (Pg.ok ⟨k, id, tx, body⟩) = false := decide_eq_false (fun h => by have := h.1; have := h.2.1; have := h.2.2.1; have := h.2.2.2.1; have := h.2.2.2.2.1; have := h.2.2.2.2.2.1; have := h.2.2.2.2.2.2; simp only at *; omega)
        rw [e]
        clear e
        have b0 : decide ((0 : Int) ≤ id) = true := decide_eq_true (by omega)
        have b1 : decide (id < 4000) = false := decide_eq_false (by omega)
        have g0 : decide ((1 : Int) ≤ k) = true := decide_eq_true (by omega)
        have g1 : decide (k ≤ 5) = true := decide_eq_true (by omega)
        clear hk
        unfold Pg.v
        go_enter Try.func17, Try.ntmps17
        go_wp2
        go_ret
        exact ⟨rfl, below_new _ _⟩
    · have e : decide (Pg.ok ⟨k, id, tx, body⟩) = false := decide_eq_false (fun h => by have := h.1; have := h.2.1; have := h.2.2.1; have := h.2.2.2.1; have := h.2.2.2.2.1; have := h.2.2.2.2.2.1; have := h.2.2.2.2.2.2; simp only at *; omega)
      rw [e]
      clear e
      have b0 : decide ((0 : Int) ≤ id) = false := decide_eq_false (by omega)
      have g0 : decide ((1 : Int) ≤ k) = true := decide_eq_true (by omega)
      have g1 : decide (k ≤ 5) = true := decide_eq_true (by omega)
      clear hk
      unfold Pg.v
      go_enter Try.func17, Try.ntmps17
      go_wp2
      go_ret
      exact ⟨rfl, below_new _ _⟩
  · by_cases hk1 : 1 ≤ k
    · have e : decide (Pg.ok ⟨k, id, tx, body⟩) = false := decide_eq_false (fun h => by have := h.1; have := h.2.1; have := h.2.2.1; have := h.2.2.2.1; have := h.2.2.2.2.1; have := h.2.2.2.2.2.1; have := h.2.2.2.2.2.2; simp only at *; omega)
      rw [e]
      clear e
      have g0 : decide ((1 : Int) ≤ k) = true := decide_eq_true (by omega)
      have g1 : decide (k ≤ 5) = false := decide_eq_false (by omega)
      clear hk hk1
      unfold Pg.v
      go_enter Try.func17, Try.ntmps17
      go_wp2
      go_ret
      exact ⟨rfl, below_new _ _⟩
    · have e : decide (Pg.ok ⟨k, id, tx, body⟩) = false := decide_eq_false (fun h => by have := h.1; have := h.2.1; have := h.2.2.1; have := h.2.2.2.1; have := h.2.2.2.2.1; have := h.2.2.2.2.2.1; have := h.2.2.2.2.2.2; simp only at *; omega)
      rw [e]
      clear e
      have g0 : decide ((1 : Int) ≤ k) = false := decide_eq_false (by omega)
      clear hk hk1
      unfold Pg.v
      go_enter Try.func17, Try.ntmps17
      go_wp2
      go_ret
      exact ⟨rfl, below_new _ _⟩

end Go.Proofs.Ytpbaodjmkdcihaa.P11
