/-
  Texts of the proof of SaidNone8, side by side: Mt7r.
-/
import Derived.Test.YtbkngnjkaledlaaGreatMn44
/-
  The reference's ValidMeta, by contract. (Written by gen_meta7.py.)
-/
namespace Go.Proofs.YtbkngnjkaledlaaGreat.P6
open Go Go.RowKit Go.Lib Go.Proofs.YtbkngnjkaledlaaGreat.P0 Go.Proofs.YtbkngnjkaledlaaGreat.P2 Go.Proofs.YtbkngnjkaledlaaGreat.P5

set_option maxHeartbeats 4000000 in
theorem rmvalid_any (w : World) (m : Mt) :
    Calls Tryz.prog 43 #[m.v] w fun r w' => r = .returned (.bool (decide m.ok)) ∧ Below w.heap.size w w' := by
  obtain ⟨tx, root, free, pages⟩ := m
  by_cases h1 : tx < 1
  · skip
    have b1 : decide (tx < 1) = true := decide_eq_true (by omega)
    have e : decide (Mt.ok ⟨tx, root, free, pages⟩) = false := decide_eq_false (show ¬ ((1 ≤ tx ∧ tx ≤ 1099511627776) ∧ (2 ≤ pages ∧ pages ≤ 4000) ∧ (root = 0 ∨ (2 ≤ root ∧ root < pages)) ∧ (free = 0 ∨ (2 ≤ free ∧ free < pages)) ∧ (root = 0 ∨ root ≠ free)) by omega)
    rw [e]
    clear e h1
    unfold Mt.v
    go_enter Tryz.func43, Tryz.ntmps43
    go_wp2
    go_ret
    exact ⟨rfl, below_new _ _⟩
  · skip
    have b1 : decide (tx < 1) = false := decide_eq_false (by omega)
    by_cases h2 : 1099511627776 < tx
    · skip
      have b2 : decide ((1099511627776 : Int) < tx) = true := decide_eq_true (by omega)
      have e : decide (Mt.ok ⟨tx, root, free, pages⟩) = false := decide_eq_false (show ¬ ((1 ≤ tx ∧ tx ≤ 1099511627776) ∧ (2 ≤ pages ∧ pages ≤ 4000) ∧ (root = 0 ∨ (2 ≤ root ∧ root < pages)) ∧ (free = 0 ∨ (2 ≤ free ∧ free < pages)) ∧ (root = 0 ∨ root ≠ free)) by omega)
      rw [e]
      clear e h1 h2
      unfold Mt.v
      go_enter Tryz.func43, Tryz.ntmps43
      go_wp2
      go_ret
      exact ⟨rfl, below_new _ _⟩
    · skip
      have b2 : decide ((1099511627776 : Int) < tx) = false := decide_eq_false (by omega)
      by_cases h3 : pages < 2
      · skip
        have b3 : decide (pages < 2) = true := decide_eq_true (by omega)
        have e : decide (Mt.ok ⟨tx, root, free, pages⟩) = false := decide_eq_false (show ¬ ((1 ≤ tx ∧ tx ≤ 1099511627776) ∧ (2 ≤ pages ∧ pages ≤ 4000) ∧ (root = 0 ∨ (2 ≤ root ∧ root < pages)) ∧ (free = 0 ∨ (2 ≤ free ∧ free < pages)) ∧ (root = 0 ∨ root ≠ free)) by omega)
        rw [e]
        clear e h1 h2 h3
        unfold Mt.v
        go_enter Tryz.func43, Tryz.ntmps43
        go_wp2
        go_ret
        exact ⟨rfl, below_new _ _⟩
      · skip
        have b3 : decide (pages < 2) = false := decide_eq_false (by omega)
        by_cases h4 : 4000 < pages
        · skip
          have b4 : decide ((4000 : Int) < pages) = true := decide_eq_true (by omega)
          have e : decide (Mt.ok ⟨tx, root, free, pages⟩) = false := decide_eq_false (show ¬ ((1 ≤ tx ∧ tx ≤ 1099511627776) ∧ (2 ≤ pages ∧ pages ≤ 4000) ∧ (root = 0 ∨ (2 ≤ root ∧ root < pages)) ∧ (free = 0 ∨ (2 ≤ free ∧ free < pages)) ∧ (root = 0 ∨ root ≠ free)) by omega)
          rw [e]
          clear e h1 h2 h3 h4
          unfold Mt.v
          go_enter Tryz.func43, Tryz.ntmps43
          go_wp2
          go_ret
          exact ⟨rfl, below_new _ _⟩
        · skip
          have b4 : decide ((4000 : Int) < pages) = false := decide_eq_false (by omega)
          by_cases h5 : root = 0
          · skip
            have r1 : (root != 0) = false := by simp; omega
            have c1 : (root == 0) = true := by simp; omega
            by_cases h6 : free = 0
            · skip
              have f1 : (free != 0) = false := by simp; omega
              have e : decide (Mt.ok ⟨tx, root, free, pages⟩) = true := decide_eq_true (show (1 ≤ tx ∧ tx ≤ 1099511627776) ∧ (2 ≤ pages ∧ pages ≤ 4000) ∧ (root = 0 ∨ (2 ≤ root ∧ root < pages)) ∧ (free = 0 ∨ (2 ≤ free ∧ free < pages)) ∧ (root = 0 ∨ root ≠ free) by omega)
              rw [e]
              clear e h1 h2 h3 h4 h5 h6
              unfold Mt.v
              go_enter Tryz.func43, Tryz.ntmps43
              go_wp2
              go_ret
              exact ⟨rfl, below_new _ _⟩
            · skip
              have f1 : (free != 0) = true := by simp; omega
              by_cases h7 : free < 2
              · skip
                have f2 : decide (free < 2) = true := decide_eq_true (by omega)
                have e : decide (Mt.ok ⟨tx, root, free, pages⟩) = false := decide_eq_false (show ¬ ((1 ≤ tx ∧ tx ≤ 1099511627776) ∧ (2 ≤ pages ∧ pages ≤ 4000) ∧ (root = 0 ∨ (2 ≤ root ∧ root < pages)) ∧ (free = 0 ∨ (2 ≤ free ∧ free < pages)) ∧ (root = 0 ∨ root ≠ free)) by omega)
                rw [e]
                clear e h1 h2 h3 h4 h5 h6 h7
                unfold Mt.v
                go_enter Tryz.func43, Tryz.ntmps43
                go_wp2
                go_ret
                exact ⟨rfl, below_new _ _⟩
              · skip
                have f2 : decide (free < 2) = false := decide_eq_false (by omega)
                by_cases h8 : pages ≤ free
                · skip
                  have f3 : decide (pages ≤ free) = true := decide_eq_true (by omega)
                  have e : decide (Mt.ok ⟨tx, root, free, pages⟩) = false := decide_eq_false (show ¬ ((1 ≤ tx ∧ tx ≤ 1099511627776) ∧ (2 ≤ pages ∧ pages ≤ 4000) ∧ (root = 0 ∨ (2 ≤ root ∧ root < pages)) ∧ (free = 0 ∨ (2 ≤ free ∧ free < pages)) ∧ (root = 0 ∨ root ≠ free)) by omega)
                  rw [e]
                  clear e h1 h2 h3 h4 h5 h6 h7 h8
                  unfold Mt.v
                  go_enter Tryz.func43, Tryz.ntmps43
                  go_wp2
                  go_ret
                  exact ⟨rfl, below_new _ _⟩
                · skip
                  have f3 : decide (pages ≤ free) = false := decide_eq_false (by omega)
                  have e : decide (Mt.ok ⟨tx, root, free, pages⟩) = true := decide_eq_true (show (1 ≤ tx ∧ tx ≤ 1099511627776) ∧ (2 ≤ pages ∧ pages ≤ 4000) ∧ (root = 0 ∨ (2 ≤ root ∧ root < pages)) ∧ (free = 0 ∨ (2 ≤ free ∧ free < pages)) ∧ (root = 0 ∨ root ≠ free) by omega)
                  rw [e]
                  clear e h1 h2 h3 h4 h5 h6 h7 h8
                  unfold Mt.v
                  go_enter Tryz.func43, Tryz.ntmps43
                  go_wp2
                  go_ret
                  exact ⟨rfl, below_new _ _⟩
          · skip
            have r1 : (root != 0) = true := by simp; omega
            have c1 : (root == 0) = false := by simp; omega
            by_cases h6 : root < 2
            · skip
              have r2 : decide (root < 2) = true := decide_eq_true (by omega)
              have e : decide (Mt.ok ⟨tx, root, free, pages⟩) = false := decide_eq_false (show ¬ ((1 ≤ tx ∧ tx ≤ 1099511627776) ∧ (2 ≤ pages ∧ pages ≤ 4000) ∧ (root = 0 ∨ (2 ≤ root ∧ root < pages)) ∧ (free = 0 ∨ (2 ≤ free ∧ free < pages)) ∧ (root = 0 ∨ root ≠ free)) by omega)
              rw [e]
              clear e h1 h2 h3 h4 h5 h6
              unfold Mt.v
              go_enter Tryz.func43, Tryz.ntmps43
              go_wp2
              go_ret
              exact ⟨rfl, below_new _ _⟩
            · skip
              have r2 : decide (root < 2) = false := decide_eq_false (by omega)
              by_cases h7 : pages ≤ root
              · skip
                have r3 : decide (pages ≤ root) = true := decide_eq_true (by omega)
                have e : decide (Mt.ok ⟨tx, root, free, pages⟩) = false := decide_eq_false (show ¬ ((1 ≤ tx ∧ tx ≤ 1099511627776) ∧ (2 ≤ pages ∧ pages ≤ 4000) ∧ (root = 0 ∨ (2 ≤ root ∧ root < pages)) ∧ (free = 0 ∨ (2 ≤ free ∧ free < pages)) ∧ (root = 0 ∨ root ≠ free)) by omega)
                rw [e]
                clear e h1 h2 h3 h4 h5 h6 h7
                unfold Mt.v
                go_enter Tryz.func43, Tryz.ntmps43
                go_wp2
                go_ret
                exact ⟨rfl, below_new _ _⟩
              · skip
                have r3 : decide (pages ≤ root) = false := decide_eq_false (by omega)
                by_cases h8 : free = 0
                · skip
                  have f1 : (free != 0) = false := by simp; omega
                  have c2 : (root != free) = true := by simp; omega
                  have e : decide (Mt.ok ⟨tx, root, free, pages⟩) = true := decide_eq_true (show (1 ≤ tx ∧ tx ≤ 1099511627776) ∧ (2 ≤ pages ∧ pages ≤ 4000) ∧ (root = 0 ∨ (2 ≤ root ∧ root < pages)) ∧ (free = 0 ∨ (2 ≤ free ∧ free < pages)) ∧ (root = 0 ∨ root ≠ free) by omega)
                  rw [e]
                  clear e h1 h2 h3 h4 h5 h6 h7 h8
                  unfold Mt.v
                  go_enter Tryz.func43, Tryz.ntmps43
                  go_wp2
                  go_ret
                  exact ⟨rfl, below_new _ _⟩
                · skip
                  have f1 : (free != 0) = true := by simp; omega
                  by_cases h9 : free < 2
                  · skip
                    have f2 : decide (free < 2) = true := decide_eq_true (by omega)
                    have e : decide (Mt.ok ⟨tx, root, free, pages⟩) = false := decide_eq_false (show ¬ ((1 ≤ tx ∧ tx ≤ 1099511627776) ∧ (2 ≤ pages ∧ pages ≤ 4000) ∧ (root = 0 ∨ (2 ≤ root ∧ root < pages)) ∧ (free = 0 ∨ (2 ≤ free ∧ free < pages)) ∧ (root = 0 ∨ root ≠ free)) by omega)
                    rw [e]
                    clear e h1 h2 h3 h4 h5 h6 h7 h8 h9
                    unfold Mt.v
                    go_enter Tryz.func43, Tryz.ntmps43
                    go_wp2
                    go_ret
                    exact ⟨rfl, below_new _ _⟩
                  · skip
                    have f2 : decide (free < 2) = false := decide_eq_false (by omega)
                    by_cases h10 : pages ≤ free
                    · skip
                      have f3 : decide (pages ≤ free) = true := decide_eq_true (by omega)
                      have e : decide (Mt.ok ⟨tx, root, free, pages⟩) = false := decide_eq_false (show ¬ ((1 ≤ tx ∧ tx ≤ 1099511627776) ∧ (2 ≤ pages ∧ pages ≤ 4000) ∧ (root = 0 ∨ (2 ≤ root ∧ root < pages)) ∧ (free = 0 ∨ (2 ≤ free ∧ free < pages)) ∧ (root = 0 ∨ root ≠ free)) by omega)
                      rw [e]
                      clear e h1 h2 h3 h4 h5 h6 h7 h8 h9 h10
                      unfold Mt.v
                      go_enter Tryz.func43, Tryz.ntmps43
                      go_wp2
                      go_ret
                      exact ⟨rfl, below_new _ _⟩
                    · skip
                      have f3 : decide (pages ≤ free) = false := decide_eq_false (by omega)
                      by_cases h11 : root = free
                      · skip
                        have c2 : (root != free) = false := by simp; omega
                        have e : decide (Mt.ok ⟨tx, root, free, pages⟩) = false := decide_eq_false (show ¬ ((1 ≤ tx ∧ tx ≤ 1099511627776) ∧ (2 ≤ pages ∧ pages ≤ 4000) ∧ (root = 0 ∨ (2 ≤ root ∧ root < pages)) ∧ (free = 0 ∨ (2 ≤ free ∧ free < pages)) ∧ (root = 0 ∨ root ≠ free)) by omega)
                        rw [e]
                        clear e h1 h2 h3 h4 h5 h6 h7 h8 h9 h10 h11
                        unfold Mt.v
                        go_enter Tryz.func43, Tryz.ntmps43
                        go_wp2
                        go_ret
                        exact ⟨rfl, below_new _ _⟩
                      · skip
                        have c2 : (root != free) = true := by simp; omega
                        have e : decide (Mt.ok ⟨tx, root, free, pages⟩) = true := decide_eq_true (show (1 ≤ tx ∧ tx ≤ 1099511627776) ∧ (2 ≤ pages ∧ pages ≤ 4000) ∧ (root = 0 ∨ (2 ≤ root ∧ root < pages)) ∧ (free = 0 ∨ (2 ≤ free ∧ free < pages)) ∧ (root = 0 ∨ root ≠ free) by omega)
                        rw [e]
                        clear e h1 h2 h3 h4 h5 h6 h7 h8 h9 h10 h11
                        unfold Mt.v
                        go_enter Tryz.func43, Tryz.ntmps43
                        go_wp2
                        go_ret
                        exact ⟨rfl, below_new _ _⟩

end Go.Proofs.YtbkngnjkaledlaaGreat.P6
