/-
  Texts of the proof of SaidNone8, side by side: Mt7.
-/
import Derived.Test.YtbkngnjkaledlaaGreatMn44
/-
  Package meta's Valid and Slot, and the reference's ValidMeta, by contracts. (Written by gen_meta7.py.)
-/
namespace Go.Proofs.YtbkngnjkaledlaaGreat.P6
open Go Go.RowKit Go.Lib Go.Proofs.YtbkngnjkaledlaaGreat.P0 Go.Proofs.YtbkngnjkaledlaaGreat.P2 Go.Proofs.YtbkngnjkaledlaaGreat.P5

theorem leads_any (w : World) (i p : Int) :
    Calls Tryz.prog 127 #[.int .i64 i, .int .i64 p] w fun r w' => r = .returned (.bool (decide (Leads i p))) ∧ w = w' := by
  by_cases h1 : i = 0
  · have e : decide (Leads i p) = true := decide_eq_true (.inl h1)
    rw [e]
    clear e
    have b1 : (i == 0) = true := by simp; omega
    go_enter Tryz.func127, Tryz.ntmps127
    go_wp2
    go_ret
    exact ⟨rfl, rfl⟩
  · have b1 : (i == 0) = false := by simp; omega
    by_cases h2 : 2 ≤ i
    · have b2 : decide ((2 : Int) ≤ i) = true := decide_eq_true h2
      by_cases h3 : i < p
      · have e : decide (Leads i p) = true := decide_eq_true (.inr ⟨h2, h3⟩)
        rw [e]
        clear e
        have b3 : decide (i < p) = true := decide_eq_true h3
        go_enter Tryz.func127, Tryz.ntmps127
        go_wp2
        go_ret
        exact ⟨rfl, rfl⟩
      · have e : decide (Leads i p) = false := decide_eq_false (show ¬ (i = 0 ∨ (2 ≤ i ∧ i < p)) by omega)
        rw [e]
        clear e
        have b3 : decide (i < p) = false := decide_eq_false h3
        go_enter Tryz.func127, Tryz.ntmps127
        go_wp2
        go_ret
        exact ⟨rfl, rfl⟩
    · have e : decide (Leads i p) = false := decide_eq_false (show ¬ (i = 0 ∨ (2 ≤ i ∧ i < p)) by omega)
      rw [e]
      clear e
      have b2 : decide ((2 : Int) ≤ i) = false := decide_eq_false h2
      go_enter Tryz.func127, Tryz.ntmps127
      go_wp2
      go_ret
      exact ⟨rfl, rfl⟩

/-- a number's lowest bit -/
theorem and_one (x : Int) (h : 0 ≤ x) (h2 : x < 9223372036854775808) : bits .and .i64 x 1 = x % 2 := by
  obtain ⟨x, rfl⟩ := Int.eq_ofNat_of_zero_le h
  have hm : (BitVec.ofInt 64 1).toNat = 2 ^ 1 - 1 := by decide
  have key : (BitVec.ofInt 64 (x : Int) &&& BitVec.ofInt 64 1).toNat = ((x : Int) % ((2 ^ 64 : Nat) : Int)).toNat % 2 ^ 1 := by
    rw [BitVec.toNat_and, BitVec.toNat_ofInt, hm, Nat.and_two_pow_sub_one_eq_mod]
  show IntKind.i64.wrap ((BitVec.ofInt 64 (x : Int) &&& BitVec.ofInt 64 1).toNat : Nat) = _
  rw [key, IntKind.wrap_i64]
  omega
theorem slot_any (w : World) (x : Int) (h : 0 ≤ x) (h2 : x < 9223372036854775808) :
    Calls Tryz.prog 42 #[.int .i64 x] w fun r w' => r = .returned (.int .i64 (x % 2)) ∧ w = w' := by
  have e := and_one x h h2
  go_enter Tryz.func42, Tryz.ntmps42
  go_wp2
  go_ret
  exact ⟨by rw [← e]; rfl, rfl⟩

set_option maxHeartbeats 4000000 in
theorem mvalid_any (w : World) (m : Mt) :
    Calls Tryz.prog 89 #[m.v] w fun r w' => r = .returned (.bool (decide m.ok)) ∧ Below w.heap.size w w' := by
  obtain ⟨tx, root, free, pages⟩ := m
  have LR := fun W => Lib.hid (leads_any W root pages)
  have LF := fun W => Lib.hid (leads_any W free pages)
  by_cases h1 : 1 ≤ tx
  · skip
    have b1 : decide ((1 : Int) ≤ tx) = true := decide_eq_true (by omega)
    by_cases h2 : tx ≤ 1099511627776
    · skip
      have b2 : decide (tx ≤ 1099511627776) = true := decide_eq_true (by omega)
      by_cases h3 : 2 ≤ pages
      · skip
        have b3 : decide ((2 : Int) ≤ pages) = true := decide_eq_true (by omega)
        by_cases h4 : pages ≤ 4000
        · skip
          have b4 : decide (pages ≤ 4000) = true := decide_eq_true (by omega)
          by_cases h5 : root = 0 ∨ (2 ≤ root ∧ root < pages)
          · skip
            rw [decide_eq_true (show Leads root pages from h5)] at LR
            by_cases h6 : free = 0 ∨ (2 ≤ free ∧ free < pages)
            · skip
              rw [decide_eq_true (show Leads free pages from h6)] at LF
              by_cases h7 : root = 0
              · skip
                have b7 : (root == 0) = true := by simp; omega
                have e : decide (Mt.ok ⟨tx, root, free, pages⟩) = true := decide_eq_true (show (1 ≤ tx ∧ tx ≤ 1099511627776) ∧ (2 ≤ pages ∧ pages ≤ 4000) ∧ (root = 0 ∨ (2 ≤ root ∧ root < pages)) ∧ (free = 0 ∨ (2 ≤ free ∧ free < pages)) ∧ (root = 0 ∨ root ≠ free) by omega)
                rw [e]
                clear e h1 h2 h3 h4 h5 h6 h7
                unfold Mt.v
                go_enter Tryz.func89, Tryz.ntmps89
                go_wp2_with (first | (go_at_call 127; (with_reducible refine (LR _).out.mono ?_); rintro e w1 ⟨rfl, rfl⟩) | (go_at_call 127; (with_reducible refine (LF _).out.mono ?_); rintro e w1 ⟨rfl, rfl⟩))
                go_ret
                exact ⟨rfl, below_new _ _⟩
              · skip
                have b7 : (root == 0) = false := by simp; omega
                by_cases h8 : root = free
                · skip
                  have b8 : (root != free) = false := by simp; omega
                  have e : decide (Mt.ok ⟨tx, root, free, pages⟩) = false := decide_eq_false (show ¬ ((1 ≤ tx ∧ tx ≤ 1099511627776) ∧ (2 ≤ pages ∧ pages ≤ 4000) ∧ (root = 0 ∨ (2 ≤ root ∧ root < pages)) ∧ (free = 0 ∨ (2 ≤ free ∧ free < pages)) ∧ (root = 0 ∨ root ≠ free)) by omega)
                  rw [e]
                  clear e h1 h2 h3 h4 h5 h6 h7 h8
                  unfold Mt.v
                  go_enter Tryz.func89, Tryz.ntmps89
                  go_wp2_with (first | (go_at_call 127; (with_reducible refine (LR _).out.mono ?_); rintro e w1 ⟨rfl, rfl⟩) | (go_at_call 127; (with_reducible refine (LF _).out.mono ?_); rintro e w1 ⟨rfl, rfl⟩))
                  go_ret
                  exact ⟨rfl, below_new _ _⟩
                · skip
                  have b8 : (root != free) = true := by simp; omega
                  have e : decide (Mt.ok ⟨tx, root, free, pages⟩) = true := decide_eq_true (show (1 ≤ tx ∧ tx ≤ 1099511627776) ∧ (2 ≤ pages ∧ pages ≤ 4000) ∧ (root = 0 ∨ (2 ≤ root ∧ root < pages)) ∧ (free = 0 ∨ (2 ≤ free ∧ free < pages)) ∧ (root = 0 ∨ root ≠ free) by omega)
                  rw [e]
                  clear e h1 h2 h3 h4 h5 h6 h7 h8
                  unfold Mt.v
                  go_enter Tryz.func89, Tryz.ntmps89
                  go_wp2_with (first | (go_at_call 127; (with_reducible refine (LR _).out.mono ?_); rintro e w1 ⟨rfl, rfl⟩) | (go_at_call 127; (with_reducible refine (LF _).out.mono ?_); rintro e w1 ⟨rfl, rfl⟩))
                  go_ret
                  exact ⟨rfl, below_new _ _⟩
            · skip
              rw [decide_eq_false (show ¬ Leads free pages from h6)] at LF
              have e : decide (Mt.ok ⟨tx, root, free, pages⟩) = false := decide_eq_false (show ¬ ((1 ≤ tx ∧ tx ≤ 1099511627776) ∧ (2 ≤ pages ∧ pages ≤ 4000) ∧ (root = 0 ∨ (2 ≤ root ∧ root < pages)) ∧ (free = 0 ∨ (2 ≤ free ∧ free < pages)) ∧ (root = 0 ∨ root ≠ free)) by omega)
              rw [e]
              clear e h1 h2 h3 h4 h5 h6
              unfold Mt.v
              go_enter Tryz.func89, Tryz.ntmps89
              go_wp2_with (first | (go_at_call 127; (with_reducible refine (LR _).out.mono ?_); rintro e w1 ⟨rfl, rfl⟩) | (go_at_call 127; (with_reducible refine (LF _).out.mono ?_); rintro e w1 ⟨rfl, rfl⟩))
              go_ret
              exact ⟨rfl, below_new _ _⟩
          · skip
            rw [decide_eq_false (show ¬ Leads root pages from h5)] at LR
            have e : decide (Mt.ok ⟨tx, root, free, pages⟩) = false := decide_eq_false (show ¬ ((1 ≤ tx ∧ tx ≤ 1099511627776) ∧ (2 ≤ pages ∧ pages ≤ 4000) ∧ (root = 0 ∨ (2 ≤ root ∧ root < pages)) ∧ (free = 0 ∨ (2 ≤ free ∧ free < pages)) ∧ (root = 0 ∨ root ≠ free)) by omega)
            rw [e]
            clear e h1 h2 h3 h4 h5
            unfold Mt.v
            go_enter Tryz.func89, Tryz.ntmps89
            go_wp2_with (first | (go_at_call 127; (with_reducible refine (LR _).out.mono ?_); rintro e w1 ⟨rfl, rfl⟩) | (go_at_call 127; (with_reducible refine (LF _).out.mono ?_); rintro e w1 ⟨rfl, rfl⟩))
            go_ret
            exact ⟨rfl, below_new _ _⟩
        · skip
          have b4 : decide (pages ≤ 4000) = false := decide_eq_false (by omega)
          have e : decide (Mt.ok ⟨tx, root, free, pages⟩) = false := decide_eq_false (show ¬ ((1 ≤ tx ∧ tx ≤ 1099511627776) ∧ (2 ≤ pages ∧ pages ≤ 4000) ∧ (root = 0 ∨ (2 ≤ root ∧ root < pages)) ∧ (free = 0 ∨ (2 ≤ free ∧ free < pages)) ∧ (root = 0 ∨ root ≠ free)) by omega)
          rw [e]
          clear e h1 h2 h3 h4
          unfold Mt.v
          go_enter Tryz.func89, Tryz.ntmps89
          go_wp2_with (first | (go_at_call 127; (with_reducible refine (LR _).out.mono ?_); rintro e w1 ⟨rfl, rfl⟩) | (go_at_call 127; (with_reducible refine (LF _).out.mono ?_); rintro e w1 ⟨rfl, rfl⟩))
          go_ret
          exact ⟨rfl, below_new _ _⟩
      · skip
        have b3 : decide ((2 : Int) ≤ pages) = false := decide_eq_false (by omega)
        have e : decide (Mt.ok ⟨tx, root, free, pages⟩) = false := decide_eq_false (show ¬ ((1 ≤ tx ∧ tx ≤ 1099511627776) ∧ (2 ≤ pages ∧ pages ≤ 4000) ∧ (root = 0 ∨ (2 ≤ root ∧ root < pages)) ∧ (free = 0 ∨ (2 ≤ free ∧ free < pages)) ∧ (root = 0 ∨ root ≠ free)) by omega)
        rw [e]
        clear e h1 h2 h3
        unfold Mt.v
        go_enter Tryz.func89, Tryz.ntmps89
        go_wp2_with (first | (go_at_call 127; (with_reducible refine (LR _).out.mono ?_); rintro e w1 ⟨rfl, rfl⟩) | (go_at_call 127; (with_reducible refine (LF _).out.mono ?_); rintro e w1 ⟨rfl, rfl⟩))
        go_ret
        exact ⟨rfl, below_new _ _⟩
    · skip
      have b2 : decide (tx ≤ 1099511627776) = false := decide_eq_false (by omega)
      have e : decide (Mt.ok ⟨tx, root, free, pages⟩) = false := decide_eq_false (show ¬ ((1 ≤ tx ∧ tx ≤ 1099511627776) ∧ (2 ≤ pages ∧ pages ≤ 4000) ∧ (root = 0 ∨ (2 ≤ root ∧ root < pages)) ∧ (free = 0 ∨ (2 ≤ free ∧ free < pages)) ∧ (root = 0 ∨ root ≠ free)) by omega)
      rw [e]
      clear e h1 h2
      unfold Mt.v
      go_enter Tryz.func89, Tryz.ntmps89
      go_wp2_with (first | (go_at_call 127; (with_reducible refine (LR _).out.mono ?_); rintro e w1 ⟨rfl, rfl⟩) | (go_at_call 127; (with_reducible refine (LF _).out.mono ?_); rintro e w1 ⟨rfl, rfl⟩))
      go_ret
      exact ⟨rfl, below_new _ _⟩
  · skip
    have b1 : decide ((1 : Int) ≤ tx) = false := decide_eq_false (by omega)
    have e : decide (Mt.ok ⟨tx, root, free, pages⟩) = false := decide_eq_false (show ¬ ((1 ≤ tx ∧ tx ≤ 1099511627776) ∧ (2 ≤ pages ∧ pages ≤ 4000) ∧ (root = 0 ∨ (2 ≤ root ∧ root < pages)) ∧ (free = 0 ∨ (2 ≤ free ∧ free < pages)) ∧ (root = 0 ∨ root ≠ free)) by omega)
    rw [e]
    clear e h1
    unfold Mt.v
    go_enter Tryz.func89, Tryz.ntmps89
    go_wp2_with (first | (go_at_call 127; (with_reducible refine (LR _).out.mono ?_); rintro e w1 ⟨rfl, rfl⟩) | (go_at_call 127; (with_reducible refine (LF _).out.mono ?_); rintro e w1 ⟨rfl, rfl⟩))
    go_ret
    exact ⟨rfl, below_new _ _⟩

end Go.Proofs.YtbkngnjkaledlaaGreat.P6
