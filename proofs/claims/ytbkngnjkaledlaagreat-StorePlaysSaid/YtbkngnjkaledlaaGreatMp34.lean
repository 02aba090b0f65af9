/-
  Texts of the proof of SaidPlay8b.
-/
import Derived.Test.YtbkngnjkaledlaaGreatMp33
set_option maxHeartbeats 8000000
namespace Go.Proofs.YtbkngnjkaledlaaGreat.P6
open Go Go.RowKit Go.Lib P0 P2 P5
theorem leads_any (w : World) (i p : Int) :
  Calls Tryz.prog 127 #[.int .i64 i, .int .i64 p] w fun r w' => r = .returned (.bool (decide (Leads i p))) ∧ w = w' := by
 by_cases h1 : i = 0
 ·have e : decide (Leads i p) = true := decide_eq_true (.inl h1)
  rw [e]
  clear e
  have b1 : (i == 0) = true := by simp; omega
  go_enter Tryz.func127, Tryz.ntmps127
  go_wp2
  go_ret
  exact ⟨rfl, rfl⟩
 ·have b1 : (i == 0) = false := by simp; omega
  by_cases h2 : 2 ≤ i
  ·have b2 : decide ((2 : Int) ≤ i) = true := decide_eq_true h2
   by_cases h3 : i < p
   ·have e : decide (Leads i p) = true := decide_eq_true (.inr ⟨h2, h3⟩)
    rw [e]
    clear e
    have b3 : decide (i < p) = true := decide_eq_true h3
    go_enter Tryz.func127, Tryz.ntmps127
    go_wp2
    go_ret
    exact ⟨rfl, rfl⟩
   ·have e : decide (Leads i p) = false := decide_eq_false (show ¬ (i = 0 ∨ (2 ≤ i ∧ i < p)) by omega)
    rw [e]
    clear e
    have b3 : decide (i < p) = false := decide_eq_false h3
    go_enter Tryz.func127, Tryz.ntmps127
    go_wp2
    go_ret
    exact ⟨rfl, rfl⟩
  ·have e : decide (Leads i p) = false := decide_eq_false (show ¬ (i = 0 ∨ (2 ≤ i ∧ i < p)) by omega)
   rw [e]
   clear e
   have b2 : decide ((2 : Int) ≤ i) = false := decide_eq_false h2
   go_enter Tryz.func127, Tryz.ntmps127
   go_wp2
   go_ret
   exact ⟨rfl, rfl⟩
theorem and_one (x : Int) (h : 0 ≤ x) (h2 : x < 9223372036854775808) : bits .and .i64 x 1 = x % 2 := by
 obtain ⟨x, rfl⟩ := Int.eq_ofNat_of_zero_le h
 have hm : (BitVec.ofInt 64 1).toNat = 2 ^ 1 - 1 := by decide
 have key : (BitVec.ofInt 64 (x : Int) &&& BitVec.ofInt 64 1).toNat = ((x : Int) % ((2 ^ 64 : Nat) : Int)).toNat % 2 ^ 1 := by
  rw [BitVec.toNat_and, BitVec.toNat_ofInt, hm, Nat.and_two_pow_sub_one_eq_mod]
 show IntKind.i64.wrap ((BitVec.ofInt 64 (x : Int) &&& BitVec.ofInt 64 1).toNat : Nat) = _
 rw [key, IntKind.wrap_i64]
 omega
theorem slot_any (w : World) (x : Int) (h : 0 ≤ x) (h2 : x < 9223372036854775808) :
  Calls Tryz.prog 42 #[.int .i64 x] w fun r w' => r = .returned (.int .i64 (x % 2)) ∧ w = w' := by
 have e := and_one x h h2
 go_enter Tryz.func42, Tryz.ntmps42
 go_wp2
 go_ret
 exact ⟨by rw [← e]; rfl, rfl⟩
theorem mvalid_any (w : World) (m : Mt) :
  Calls Tryz.prog 89 #[m.v] w fun r w' => r = .returned (.bool (decide m.ok)) ∧ Below w.heap.size w w' := by
 obtain ⟨tx, root, free, pages⟩ := m
 have LR := fun W => Lib.hid (leads_any W root pages)
 have LF := fun W => Lib.hid (leads_any W free pages)
 by_cases h1 : 1 ≤ tx
 ·skip
  have b1 : decide ((1 : Int) ≤ tx) = true := decide_eq_true (by omega)
  by_cases h2 : tx ≤ 1099511627776
  ·skip
   have b2 : decide (tx ≤ 1099511627776) = true := decide_eq_true (by omega)
   by_cases h3 : 2 ≤ pages
   ·skip
    have b3 : decide ((2 : Int) ≤ pages) = true := decide_eq_true (by omega)
    by_cases h4 : pages ≤ 4000
    ·skip
     have b4 : decide (pages ≤ 4000) = true := decide_eq_true (by omega)
     by_cases h5 : root = 0 ∨ (2 ≤ root ∧ root < pages)
     ·skip
      rw [decide_eq_true (show Leads root pages from h5)] at LR
      by_cases h6 : free = 0 ∨ (2 ≤ free ∧ free < pages)
      ·skip
       rw [decide_eq_true (show Leads free pages from h6)] at LF
       by_cases h7 : root = 0
       ·skip
        have b7 : (root == 0) = true := by simp; omega
        have e : decide (Mt.ok ⟨tx, root, free, pages⟩) = true := decide_eq_true (show (1 ≤ tx ∧ tx ≤ 1099511627776) ∧ (2 ≤ pages ∧ pages ≤ 4000) ∧ (root = 0 ∨ (2 ≤ root ∧ root < pages)) ∧ (free = 0 ∨ (2 ≤ free ∧ free < pages)) ∧ (root = 0 ∨ root ≠ free) by omega)
        rw [e]
        clear e h1 h2 h3 h4 h5 h6 h7
        unfold Mt.v
        go_enter Tryz.func89, Tryz.ntmps89
        go_wp2_with (first | (go_at_call 127; (with_reducible refine (LR _).out.mono ?_); rintro e w1 ⟨rfl, rfl⟩) | (go_at_call 127; (with_reducible refine (LF _).out.mono ?_); rintro e w1 ⟨rfl, rfl⟩))
        go_ret
        exact ⟨rfl, below_new _ _⟩
       ·skip
        have b7 : (root == 0) = false := by simp; omega
        by_cases h8 : root = free
        ·skip
         have b8 : (root != free) = false := by simp; omega
         have e : decide (Mt.ok ⟨tx, root, free, pages⟩) = false := decide_eq_false (show ¬ ((1 ≤ tx ∧ tx ≤ 1099511627776) ∧ (2 ≤ pages ∧ pages ≤ 4000) ∧ (root = 0 ∨ (2 ≤ root ∧ root < pages)) ∧ (free = 0 ∨ (2 ≤ free ∧ free < pages)) ∧ (root = 0 ∨ root ≠ free)) by omega)
         rw [e]
         clear e h1 h2 h3 h4 h5 h6 h7 h8
         unfold Mt.v
         go_enter Tryz.func89, Tryz.ntmps89
         go_wp2_with (first | (go_at_call 127; (with_reducible refine (LR _).out.mono ?_); rintro e w1 ⟨rfl, rfl⟩) | (go_at_call 127; (with_reducible refine (LF _).out.mono ?_); rintro e w1 ⟨rfl, rfl⟩))
         go_ret
         exact ⟨rfl, below_new _ _⟩
        ·skip
         have b8 : (root != free) = true := by simp; omega
         have e : decide (Mt.ok ⟨tx, root, free, pages⟩) = true := decide_eq_true (show (1 ≤ tx ∧ tx ≤ 1099511627776) ∧ (2 ≤ pages ∧ pages ≤ 4000) ∧ (root = 0 ∨ (2 ≤ root ∧ root < pages)) ∧ (free = 0 ∨ (2 ≤ free ∧ free < pages)) ∧ (root = 0 ∨ root ≠ free) by omega)
         rw [e]
         clear e h1 h2 h3 h4 h5 h6 h7 h8
         unfold Mt.v
         go_enter Tryz.func89, Tryz.ntmps89
         go_wp2_with (first | (go_at_call 127; (with_reducible refine (LR _).out.mono ?_); rintro e w1 ⟨rfl, rfl⟩) | (go_at_call 127; (with_reducible refine (LF _).out.mono ?_); rintro e w1 ⟨rfl, rfl⟩))
         go_ret
         exact ⟨rfl, below_new _ _⟩
      ·skip
       rw [decide_eq_false (show ¬ Leads free pages from h6)] at LF
       have e : decide (Mt.ok ⟨tx, root, free, pages⟩) = false := decide_eq_false (show ¬ ((1 ≤ tx ∧ tx ≤ 1099511627776) ∧ (2 ≤ pages ∧ pages ≤ 4000) ∧ (root = 0 ∨ (2 ≤ root ∧ root < pages)) ∧ (free = 0 ∨ (2 ≤ free ∧ free < pages)) ∧ (root = 0 ∨ root ≠ free)) by omega)
       rw [e]
       clear e h1 h2 h3 h4 h5 h6
       unfold Mt.v
       go_enter Tryz.func89, Tryz.ntmps89
       go_wp2_with (first | (go_at_call 127; (with_reducible refine (LR _).out.mono ?_); rintro e w1 ⟨rfl, rfl⟩) | (go_at_call 127; (with_reducible refine (LF _).out.mono ?_); rintro e w1 ⟨rfl, rfl⟩))
       go_ret
       exact ⟨rfl, below_new _ _⟩
     ·skip
      rw [decide_eq_false (show ¬ Leads root pages from h5)] at LR
      have e : decide (Mt.ok ⟨tx, root, free, pages⟩) = false := decide_eq_false (show ¬ ((1 ≤ tx ∧ tx ≤ 1099511627776) ∧ (2 ≤ pages ∧ pages ≤ 4000) ∧ (root = 0 ∨ (2 ≤ root ∧ root < pages)) ∧ (free = 0 ∨ (2 ≤ free ∧ free < pages)) ∧ (root = 0 ∨ root ≠ free)) by omega)
      rw [e]
      clear e h1 h2 h3 h4 h5
      unfold Mt.v
      go_enter Tryz.func89, Tryz.ntmps89
      go_wp2_with (first | (go_at_call 127; (with_reducible refine (LR _).out.mono ?_); rintro e w1 ⟨rfl, rfl⟩) | (go_at_call 127; (with_reducible refine (LF _).out.mono ?_); rintro e w1 ⟨rfl, rfl⟩))
      go_ret
      exact ⟨rfl, below_new _ _⟩
    ·skip
     have b4 : decide (pages ≤ 4000) = false := decide_eq_false (by omega)
     have e : decide (Mt.ok ⟨tx, root, free, pages⟩) = false := decide_eq_false (show ¬ ((1 ≤ tx ∧ tx ≤ 1099511627776) ∧ (2 ≤ pages ∧ pages ≤ 4000) ∧ (root = 0 ∨ (2 ≤ root ∧ root < pages)) ∧ (free = 0 ∨ (2 ≤ free ∧ free < pages)) ∧ (root = 0 ∨ root ≠ free)) by omega)
     rw [e]
     clear e h1 h2 h3 h4
     unfold Mt.v
     go_enter Tryz.func89, Tryz.ntmps89
     go_wp2_with (first | (go_at_call 127; (with_reducible refine (LR _).out.mono ?_); rintro e w1 ⟨rfl, rfl⟩) | (go_at_call 127; (with_reducible refine (LF _).out.mono ?_); rintro e w1 ⟨rfl, rfl⟩))
     go_ret
     exact ⟨rfl, below_new _ _⟩
   ·skip
    have b3 : decide ((2 : Int) ≤ pages) = false := decide_eq_false (by omega)
    have e : decide (Mt.ok ⟨tx, root, free, pages⟩) = false := decide_eq_false (show ¬ ((1 ≤ tx ∧ tx ≤ 1099511627776) ∧ (2 ≤ pages ∧ pages ≤ 4000) ∧ (root = 0 ∨ (2 ≤ root ∧ root < pages)) ∧ (free = 0 ∨ (2 ≤ free ∧ free < pages)) ∧ (root = 0 ∨ root ≠ free)) by omega)
    rw [e]
    clear e h1 h2 h3
    unfold Mt.v
    go_enter Tryz.func89, Tryz.ntmps89
    go_wp2_with (first | (go_at_call 127; (with_reducible refine (LR _).out.mono ?_); rintro e w1 ⟨rfl, rfl⟩) | (go_at_call 127; (with_reducible refine (LF _).out.mono ?_); rintro e w1 ⟨rfl, rfl⟩))
    go_ret
    exact ⟨rfl, below_new _ _⟩
  ·skip
   have b2 : decide (tx ≤ 1099511627776) = false := decide_eq_false (by omega)
   have e : decide (Mt.ok ⟨tx, root, free, pages⟩) = false := decide_eq_false (show ¬ ((1 ≤ tx ∧ tx ≤ 1099511627776) ∧ (2 ≤ pages ∧ pages ≤ 4000) ∧ (root = 0 ∨ (2 ≤ root ∧ root < pages)) ∧ (free = 0 ∨ (2 ≤ free ∧ free < pages)) ∧ (root = 0 ∨ root ≠ free)) by omega)
   rw [e]
   clear e h1 h2
   unfold Mt.v
   go_enter Tryz.func89, Tryz.ntmps89
   go_wp2_with (first | (go_at_call 127; (with_reducible refine (LR _).out.mono ?_); rintro e w1 ⟨rfl, rfl⟩) | (go_at_call 127; (with_reducible refine (LF _).out.mono ?_); rintro e w1 ⟨rfl, rfl⟩))
   go_ret
   exact ⟨rfl, below_new _ _⟩
 ·skip
  have b1 : decide ((1 : Int) ≤ tx) = false := decide_eq_false (by omega)
  have e : decide (Mt.ok ⟨tx, root, free, pages⟩) = false := decide_eq_false (show ¬ ((1 ≤ tx ∧ tx ≤ 1099511627776) ∧ (2 ≤ pages ∧ pages ≤ 4000) ∧ (root = 0 ∨ (2 ≤ root ∧ root < pages)) ∧ (free = 0 ∨ (2 ≤ free ∧ free < pages)) ∧ (root = 0 ∨ root ≠ free)) by omega)
  rw [e]
  clear e h1
  unfold Mt.v
  go_enter Tryz.func89, Tryz.ntmps89
  go_wp2_with (first | (go_at_call 127; (with_reducible refine (LR _).out.mono ?_); rintro e w1 ⟨rfl, rfl⟩) | (go_at_call 127; (with_reducible refine (LF _).out.mono ?_); rintro e w1 ⟨rfl, rfl⟩))
  go_ret
  exact ⟨rfl, below_new _ _⟩
theorem rmvalid_any (w : World) (m : Mt) :
  Calls Tryz.prog 43 #[m.v] w fun r w' => r = .returned (.bool (decide m.ok)) ∧ Below w.heap.size w w' := by
 obtain ⟨tx, root, free, pages⟩ := m
 by_cases h1 : tx < 1
 ·skip
  have b1 : decide (tx < 1) = true := decide_eq_true (by omega)
  have e : decide (Mt.ok ⟨tx, root, free, pages⟩) = false := decide_eq_false (show ¬ ((1 ≤ tx ∧ tx ≤ 1099511627776) ∧ (2 ≤ pages ∧ pages ≤ 4000) ∧ (root = 0 ∨ (2 ≤ root ∧ root < pages)) ∧ (free = 0 ∨ (2 ≤ free ∧ free < pages)) ∧ (root = 0 ∨ root ≠ free)) by omega)
  rw [e]
  clear e h1
  unfold Mt.v
  go_enter Tryz.func43, Tryz.ntmps43
  go_wp2
  go_ret
  exact ⟨rfl, below_new _ _⟩
 ·skip
  have b1 : decide (tx < 1) = false := decide_eq_false (by omega)
  by_cases h2 : 1099511627776 < tx
  ·skip
   have b2 : decide ((1099511627776 : Int) < tx) = true := decide_eq_true (by omega)
   have e : decide (Mt.ok ⟨tx, root, free, pages⟩) = false := decide_eq_false (show ¬ ((1 ≤ tx ∧ tx ≤ 1099511627776) ∧ (2 ≤ pages ∧ pages ≤ 4000) ∧ (root = 0 ∨ (2 ≤ root ∧ root < pages)) ∧ (free = 0 ∨ (2 ≤ free ∧ free < pages)) ∧ (root = 0 ∨ root ≠ free)) by omega)
   rw [e]
   clear e h1 h2
   unfold Mt.v
   go_enter Tryz.func43, Tryz.ntmps43
   go_wp2
   go_ret
   exact ⟨rfl, below_new _ _⟩
  ·skip
   have b2 : decide ((1099511627776 : Int) < tx) = false := decide_eq_false (by omega)
   by_cases h3 : pages < 2
   ·skip
    have b3 : decide (pages < 2) = true := decide_eq_true (by omega)
    have e : decide (Mt.ok ⟨tx, root, free, pages⟩) = false := decide_eq_false (show ¬ ((1 ≤ tx ∧ tx ≤ 1099511627776) ∧ (2 ≤ pages ∧ pages ≤ 4000) ∧ (root = 0 ∨ (2 ≤ root ∧ root < pages)) ∧ (free = 0 ∨ (2 ≤ free ∧ free < pages)) ∧ (root = 0 ∨ root ≠ free)) by omega)
    rw [e]
    clear e h1 h2 h3
    unfold Mt.v
    go_enter Tryz.func43, Tryz.ntmps43
    go_wp2
    go_ret
    exact ⟨rfl, below_new _ _⟩
   ·skip
    have b3 : decide (pages < 2) = false := decide_eq_false (by omega)
    by_cases h4 : 4000 < pages
    ·skip
     have b4 : decide ((4000 : Int) < pages) = true := decide_eq_true (by omega)
     have e : decide (Mt.ok ⟨tx, root, free, pages⟩) = false := decide_eq_false (show ¬ ((1 ≤ tx ∧ tx ≤ 1099511627776) ∧ (2 ≤ pages ∧ pages ≤ 4000) ∧ (root = 0 ∨ (2 ≤ root ∧ root < pages)) ∧ (free = 0 ∨ (2 ≤ free ∧ free < pages)) ∧ (root = 0 ∨ root ≠ free)) by omega)
     rw [e]
     clear e h1 h2 h3 h4
     unfold Mt.v
     go_enter Tryz.func43, Tryz.ntmps43
     go_wp2
     go_ret
     exact ⟨rfl, below_new _ _⟩
    ·skip
     have b4 : decide ((4000 : Int) < pages) = false := decide_eq_false (by omega)
     by_cases h5 : root = 0
     ·skip
      have r1 : (root != 0) = false := by simp; omega
      have c1 : (root == 0) = true := by simp; omega
      by_cases h6 : free = 0
      ·skip
       have f1 : (free != 0) = false := by simp; omega
       have e : decide (Mt.ok ⟨tx, root, free, pages⟩) = true := decide_eq_true (show (1 ≤ tx ∧ tx ≤ 1099511627776) ∧ (2 ≤ pages ∧ pages ≤ 4000) ∧ (root = 0 ∨ (2 ≤ root ∧ root < pages)) ∧ (free = 0 ∨ (2 ≤ free ∧ free < pages)) ∧ (root = 0 ∨ root ≠ free) by omega)
       rw [e]
       clear e h1 h2 h3 h4 h5 h6
       unfold Mt.v
       go_enter Tryz.func43, Tryz.ntmps43
       go_wp2
       go_ret
       exact ⟨rfl, below_new _ _⟩
      ·skip
       have f1 : (free != 0) = true := by simp; omega
       by_cases h7 : free < 2
       ·skip
        have f2 : decide (free < 2) = true := decide_eq_true (by omega)
        have e : decide (Mt.ok ⟨tx, root, free, pages⟩) = false := decide_eq_false (show ¬ ((1 ≤ tx ∧ tx ≤ 1099511627776) ∧ (2 ≤ pages ∧ pages ≤ 4000) ∧ (root = 0 ∨ (2 ≤ root ∧ root < pages)) ∧ (free = 0 ∨ (2 ≤ free ∧ free < pages)) ∧ (root = 0 ∨ root ≠ free)) by omega)
        rw [e]
        clear e h1 h2 h3 h4 h5 h6 h7
        unfold Mt.v
        go_enter Tryz.func43, Tryz.ntmps43
        go_wp2
        go_ret
        exact ⟨rfl, below_new _ _⟩
       ·skip
        have f2 : decide (free < 2) = false := decide_eq_false (by omega)
        by_cases h8 : pages ≤ free
        ·skip
         have f3 : decide (pages ≤ free) = true := decide_eq_true (by omega)
         have e : decide (Mt.ok ⟨tx, root, free, pages⟩) = false := decide_eq_false (show ¬ ((1 ≤ tx ∧ tx ≤ 1099511627776) ∧ (2 ≤ pages ∧ pages ≤ 4000) ∧ (root = 0 ∨ (2 ≤ root ∧ root < pages)) ∧ (free = 0 ∨ (2 ≤ free ∧ free < pages)) ∧ (root = 0 ∨ root ≠ free)) by omega)
         rw [e]
         clear e h1 h2 h3 h4 h5 h6 h7 h8
         unfold Mt.v
         go_enter Tryz.func43, Tryz.ntmps43
         go_wp2
         go_ret
         exact ⟨rfl, below_new _ _⟩
        ·skip
         have f3 : decide (pages ≤ free) = false := decide_eq_false (by omega)
         have e : decide (Mt.ok ⟨tx, root, free, pages⟩) = true := decide_eq_true (show (1 ≤ tx ∧ tx ≤ 1099511627776) ∧ (2 ≤ pages ∧ pages ≤ 4000) ∧ (root = 0 ∨ (2 ≤ root ∧ root < pages)) ∧ (free = 0 ∨ (2 ≤ free ∧ free < pages)) ∧ (root = 0 ∨ root ≠ free) by omega)
         rw [e]
         clear e h1 h2 h3 h4 h5 h6 h7 h8
         unfold Mt.v
         go_enter Tryz.func43, Tryz.ntmps43
         go_wp2
         go_ret
         exact ⟨rfl, below_new _ _⟩
     ·skip
      have r1 : (root != 0) = true := by simp; omega
      have c1 : (root == 0) = false := by simp; omega
      by_cases h6 : root < 2
      ·skip
       have r2 : decide (root < 2) = true := decide_eq_true (by omega)
       have e : decide (Mt.ok ⟨tx, root, free, pages⟩) = false := decide_eq_false (show ¬ ((1 ≤ tx ∧ tx ≤ 1099511627776) ∧ (2 ≤ pages ∧ pages ≤ 4000) ∧ (root = 0 ∨ (2 ≤ root ∧ root < pages)) ∧ (free = 0 ∨ (2 ≤ free ∧ free < pages)) ∧ (root = 0 ∨ root ≠ free)) by omega)
       rw [e]
       clear e h1 h2 h3 h4 h5 h6
       unfold Mt.v
       go_enter Tryz.func43, Tryz.ntmps43
       go_wp2
       go_ret
       exact ⟨rfl, below_new _ _⟩
      ·skip
       have r2 : decide (root < 2) = false := decide_eq_false (by omega)
       by_cases h7 : pages ≤ root
       ·skip
        have r3 : decide (pages ≤ root) = true := decide_eq_true (by omega)
        have e : decide (Mt.ok ⟨tx, root, free, pages⟩) = false := decide_eq_false (show ¬ ((1 ≤ tx ∧ tx ≤ 1099511627776) ∧ (2 ≤ pages ∧ pages ≤ 4000) ∧ (root = 0 ∨ (2 ≤ root ∧ root < pages)) ∧ (free = 0 ∨ (2 ≤ free ∧ free < pages)) ∧ (root = 0 ∨ root ≠ free)) by omega)
        rw [e]
        clear e h1 h2 h3 h4 h5 h6 h7
        unfold Mt.v
        go_enter Tryz.func43, Tryz.ntmps43
        go_wp2
        go_ret
        exact ⟨rfl, below_new _ _⟩
       ·skip
        have r3 : decide (pages ≤ root) = false := decide_eq_false (by omega)
        by_cases h8 : free = 0
        ·skip
         have f1 : (free != 0) = false := by simp; omega
         have c2 : (root != free) = true := by simp; omega
         have e : decide (Mt.ok ⟨tx, root, free, pages⟩) = true := decide_eq_true (show (1 ≤ tx ∧ tx ≤ 1099511627776) ∧ (2 ≤ pages ∧ pages ≤ 4000) ∧ (root = 0 ∨ (2 ≤ root ∧ root < pages)) ∧ (free = 0 ∨ (2 ≤ free ∧ free < pages)) ∧ (root = 0 ∨ root ≠ free) by omega)
         rw [e]
         clear e h1 h2 h3 h4 h5 h6 h7 h8
         unfold Mt.v
         go_enter Tryz.func43, Tryz.ntmps43
         go_wp2
         go_ret
         exact ⟨rfl, below_new _ _⟩
        ·skip
         have f1 : (free != 0) = true := by simp; omega
         by_cases h9 : free < 2
         ·skip
          have f2 : decide (free < 2) = true := decide_eq_true (by omega)
          have e : decide (Mt.ok ⟨tx, root, free, pages⟩) = false := decide_eq_false (show ¬ ((1 ≤ tx ∧ tx ≤ 1099511627776) ∧ (2 ≤ pages ∧ pages ≤ 4000) ∧ (root = 0 ∨ (2 ≤ root ∧ root < pages)) ∧ (free = 0 ∨ (2 ≤ free ∧ free < pages)) ∧ (root = 0 ∨ root ≠ free)) by omega)
          rw [e]
          clear e h1 h2 h3 h4 h5 h6 h7 h8 h9
          unfold Mt.v
          go_enter Tryz.func43, Tryz.ntmps43
          go_wp2
          go_ret
          exact ⟨rfl, below_new _ _⟩
         ·skip
          have f2 : decide (free < 2) = false := decide_eq_false (by omega)
          by_cases h10 : pages ≤ free
          ·skip
           have f3 : decide (pages ≤ free) = true := decide_eq_true (by omega)
           have e : decide (Mt.ok ⟨tx, root, free, pages⟩) = false := decide_eq_false (show ¬ ((1 ≤ tx ∧ tx ≤ 1099511627776) ∧ (2 ≤ pages ∧ pages ≤ 4000) ∧ (root = 0 ∨ (2 ≤ root ∧ root < pages)) ∧ (free = 0 ∨ (2 ≤ free ∧ free < pages)) ∧ (root = 0 ∨ root ≠ free)) by omega)
           rw [e]
           clear e h1 h2 h3 h4 h5 h6 h7 h8 h9 h10
           unfold Mt.v
           go_enter Tryz.func43, Tryz.ntmps43
           go_wp2
           go_ret
           exact ⟨rfl, below_new _ _⟩
          ·skip
           have f3 : decide (pages ≤ free) = false := decide_eq_false (by omega)
           by_cases h11 : root = free
           ·skip
            have c2 : (root != free) = false := by simp; omega
            have e : decide (Mt.ok ⟨tx, root, free, pages⟩) = false := decide_eq_false (show ¬ ((1 ≤ tx ∧ tx ≤ 1099511627776) ∧ (2 ≤ pages ∧ pages ≤ 4000) ∧ (root = 0 ∨ (2 ≤ root ∧ root < pages)) ∧ (free = 0 ∨ (2 ≤ free ∧ free < pages)) ∧ (root = 0 ∨ root ≠ free)) by omega)
            rw [e]
            clear e h1 h2 h3 h4 h5 h6 h7 h8 h9 h10 h11
            unfold Mt.v
            go_enter Tryz.func43, Tryz.ntmps43
            go_wp2
            go_ret
            exact ⟨rfl, below_new _ _⟩
           ·skip
            have c2 : (root != free) = true := by simp; omega
            have e : decide (Mt.ok ⟨tx, root, free, pages⟩) = true := decide_eq_true (show (1 ≤ tx ∧ tx ≤ 1099511627776) ∧ (2 ≤ pages ∧ pages ≤ 4000) ∧ (root = 0 ∨ (2 ≤ root ∧ root < pages)) ∧ (free = 0 ∨ (2 ≤ free ∧ free < pages)) ∧ (root = 0 ∨ root ≠ free) by omega)
            rw [e]
            clear e h1 h2 h3 h4 h5 h6 h7 h8 h9 h10 h11
            unfold Mt.v
            go_enter Tryz.func43, Tryz.ntmps43
            go_wp2
            go_ret
            exact ⟨rfl, below_new _ _⟩
def Mt.same (p q : Mt) : Bool := (p.tx == q.tx) && (p.root == q.root) && (p.free == q.free) && (p.pages == q.pages)
theorem Mt.same_self (p : Mt) : p.same p = true := by
 unfold Mt.same
 rw [beq_self_eq_true, beq_self_eq_true, beq_self_eq_true, beq_self_eq_true]
 rfl
theorem Mt.same_eq {p q : Mt} (h : p.same q = true) : p = q := by
 unfold Mt.same at h
 simp only [Bool.and_eq_true, beq_iff_eq] at h
 exact Mt.ext' h.1.1.1 h.1.1.2 h.1.2 h.2
theorem Mt.same_ne {p q : Mt} (h : p ≠ q) : p.same q = false := by
 cases e : p.same q
 ·rfl
 ·exact absurd (Mt.same_eq e) h
theorem mstood : Tryz.prog.stoodInHeld 41 = false := by kernel_rfl
theorem meta_desc : Tryz.prog.underlying 41 = some (.struct (Tryz.prog.fieldsOf 41)) := by
 unfold Program.fieldsOf
 rw [Tryz.underlying41]
theorem meta_equal (w : World) (p q : Mt) : (Op.equalIn 10000 41 p.v q.v).run Tryz.prog w = .ok (p.same q) w := by
 unfold Mt.v
 rw [run_equalIn_agg w 9999 _ _ _ meta_desc mstood]
 have ei : ∀ (w : World) (a b : Int), (Op.equalIn 9999 3 (.int .i64 a) (.int .i64 b)).run Tryz.prog w = .ok (a == b) w := fun w a b => run_equalIn_int w 9998 _ _ _ a b Tryz.underlying3
 have q0 : ∀ (w : World) (a b c d : Value), (part 3 #[a, b, c, d] 0).run Tryz.prog w = .ok a w := fun w a b c d => part_int w _ 0 a rfl
 have q1 : ∀ (w : World) (a b c d : Value), (part 3 #[a, b, c, d] 1).run Tryz.prog w = .ok b w := fun w a b c d => part_int w _ 1 b rfl
 have q2 : ∀ (w : World) (a b c d : Value), (part 3 #[a, b, c, d] 2).run Tryz.prog w = .ok c w := fun w a b c d => part_int w _ 2 c rfl
 have q3 : ∀ (w : World) (a b c d : Value), (part 3 #[a, b, c, d] 3).run Tryz.prog w = .ok d w := fun w a b c d => part_int w _ 3 d rfl
 simp [Program.fieldsOf, Tryz.underlying41, Op.eqFields, q0, q1, q2, q3, ei]
 unfold Mt.same
 by_cases h1 : p.tx = q.tx <;> by_cases h2 : p.root = q.root <;> by_cases h3 : p.free = q.free <;> by_cases h4 : p.pages = q.pages <;> simp [h1, h2, h3, h4]
theorem meta_eql (w : World) (p q : Mt) : (binOp .eql 41 p.v q.v).run Tryz.prog w = .ok (.bool (p.same q)) w := by
 have h := meta_equal w p q
 unfold Mt.v at *
 rw [run_eql_struct, h]
 rfl
theorem meta_neq (w : World) (p q : Mt) : (binOp .neq 41 p.v q.v).run Tryz.prog w = .ok (.bool (!p.same q)) w := by
 have h := meta_equal w p q
 unfold Mt.v at *
 rw [run_neq_struct, h]
 rfl
theorem page_neq (w : World) (p q : Pg) : (binOp .neq 47 p.v q.v).run Tryz.prog w = .ok (.bool (!p.same q)) w := by
 have h := page_eql w p q
 unfold Pg.v at *
 rw [run_eql_struct] at h
 rw [run_neq_struct]
 cases e : (Op.equalIn 10000 47 (.agg #[.int .i64 p.k, .int .i64 p.id, .int .i64 p.tx, .string p.body]) (.agg #[.int .i64 q.k, .int .i64 q.id, .int .i64 q.tx, .string q.body])).run Tryz.prog w with
 | ok b w' => rw [e] at h; simp only [Result.andThen_ok] at h ⊢; cases h; rfl
 | _ => rw [e] at h; cases h
theorem meta_result {fn : Func} {q u : Tmp} (h : fn.results = #[.cell q 41, .tmp u]) (tmps : Array Value) (w : World) (a : Nat) (cs : Array Value) (hq : tmps.getD q undef = .pointer (some ⟨a, 0, none⟩)) (hc : w.heap[a]? = some (.cells cs 41 (0, 0))) (hs : cs.size = 4) :
  (results fn tmps).run Tryz.prog w = .ok (.tuple #[.agg cs, tmps.getD u undef]) w := by
 have hi : (Tryz.prog.info? 41).map (·.size) = some cs.size := by rw [hs]; kernel_rfl
 rw [results_cell_tmp h, hq]
 have e1 : (asAddr (.pointer (some ⟨a, 0, none⟩))).run Tryz.prog w = .ok ⟨a, 0, none⟩ w := rfl
 rw [e1, Result.andThen_ok, run_loadVar_row (P := Tryz.prog) w a 41 41 cs (0, 0) _ hc Tryz.underlying41 rfl hi]
 rfl
theorem rmeta_result {fn : Func} {q u : Tmp} (h : fn.results = #[.cell q 93, .tmp u]) (tmps : Array Value) (w : World) (a : Nat) (cs : Array Value) (hq : tmps.getD q undef = .pointer (some ⟨a, 0, none⟩)) (hc : w.heap[a]? = some (.cells cs 93 (0, 0))) (hs : cs.size = 4) :
  (results fn tmps).run Tryz.prog w = .ok (.tuple #[.agg cs, tmps.getD u undef]) w := by
 have hi : (Tryz.prog.info? 93).map (·.size) = some cs.size := by rw [hs]; kernel_rfl
 rw [results_cell_tmp h, hq]
 have e1 : (asAddr (.pointer (some ⟨a, 0, none⟩))).run Tryz.prog w = .ok ⟨a, 0, none⟩ w := rfl
 rw [e1, Result.andThen_ok, run_loadVar_row (P := Tryz.prog) w a 93 93 cs (0, 0) _ hc Tryz.underlying93 rfl hi]
 rfl
theorem page_one {fn : Func} {q : Tmp} (h : fn.results = #[.cell q 47]) (tmps : Array Value) (w : World) (a : Nat) (cs : Array Value) (hq : tmps.getD q undef = .pointer (some ⟨a, 0, none⟩)) (hc : w.heap[a]? = some (.cells cs 47 (0, 0))) (hs : cs.size = 4) :
  (results fn tmps).run Tryz.prog w = .ok (.agg cs) w :=
 results_cell_row h tmps w a 47 cs (0, 0) _ hq hc Tryz.underlying47 rfl (by rw [hs]; kernel_rfl)
theorem meta_one {fn : Func} {q : Tmp} (h : fn.results = #[.cell q 41]) (tmps : Array Value) (w : World) (a : Nat) (cs : Array Value) (hq : tmps.getD q undef = .pointer (some ⟨a, 0, none⟩)) (hc : w.heap[a]? = some (.cells cs 41 (0, 0))) (hs : cs.size = 4) :
  (results fn tmps).run Tryz.prog w = .ok (.agg cs) w :=
 results_cell_row h tmps w a 41 cs (0, 0) _ hq hc Tryz.underlying41 rfl (by rw [hs]; kernel_rfl)
structure Bks (w0 : World) (l : List (Nat × Array Value × TypeId)) (w : World) : Prop where
 have_ : ∀ x ∈ l, w.heap[x.1]? = some (.cells x.2.1 x.2.2 (0, 0)) ∧ w0.heap.size ≤ x.1
 below : Below w0.heap.size w0 w
theorem Bks.nil (w : World) : Bks w [] w := ⟨fun _ h => (List.not_mem_nil h).elim, Below.refl _ _⟩
theorem Bks.over {w0 : World} {l : List (Nat × Array Value × TypeId)} {w w' : World} (h : Bks w0 l w) (k : Below w.heap.size w w') : Bks w0 l w' :=
 ⟨fun x hx => ⟨by rw [k.block _ (lt_of_block (h.have_ x hx).1)]; exact (h.have_ x hx).1, (h.have_ x hx).2⟩, thenBelow h.below k⟩
theorem Bks.new {w0 : World} {l : List (Nat × Array Value × TypeId)} {w : World} (h : Bks w0 l w) (cs : Array Value) (t : TypeId) : Bks w0 ((w.heap.size, cs, t) :: l) (w.alloc (.cells cs t)) := by
 have h' := h.over (below_new w (.cells cs t))
 refine ⟨fun x hx => ?_, h'.below⟩
 rcases List.mem_cons.1 hx with rfl | hx
 ·exact ⟨new_at w _ _, h.below.size⟩
 ·exact h'.have_ x hx
theorem Bks.at_ {w0 : World} {l : List (Nat × Array Value × TypeId)} {w : World} (h : Bks w0 l w) (i : Nat) {b : Nat} {cs : Array Value} {t : TypeId} (e : l[i]? = some (b, cs, t)) : w.heap[b]? = some (.cells cs t (0, 0)) :=
 (h.have_ _ (List.mem_of_getElem? e)).1
theorem Bks.lo {w0 : World} {l : List (Nat × Array Value × TypeId)} {w : World} (h : Bks w0 l w) (i : Nat) {b : Nat} {cs : Array Value} {t : TypeId} (e : l[i]? = some (b, cs, t)) : w0.heap.size ≤ b :=
 (h.have_ _ (List.mem_of_getElem? e)).2
theorem Bks.fr {w0 : World} {l : List (Nat × Array Value × TypeId)} {w w' : World} {b : Nat} (h : Bks w0 l w) (f : Fr b w w') (hb : w0.heap.size ≤ b) (hl : ∀ x ∈ l, x.1 ≠ b ∧ x.2.2 ≠ 5) : Bks w0 l w' :=
 ⟨fun x hx => ⟨f.keeps _ _ _ _ (h.have_ x hx).1 (hl x hx).2 (hl x hx).1, (h.have_ x hx).2⟩, h.below.trans (f.below.mono hb)⟩
theorem cells4 {w : World} {a : Nat} {c0 c1 c2 c3 : Value} {t : TypeId} (h : w.heap[a]? = some (.cells #[c0, c1, c2, c3] t (0, 0))) :
  w.cell? ⟨a, 0, none⟩ = some c0 ∧ w.cell? ⟨a, 1, none⟩ = some c1 ∧ w.cell? ⟨a, 2, none⟩ = some c2 ∧ w.cell? ⟨a, 3, none⟩ = some c3 :=
 ⟨cell_at h 0, cell_at h 1, cell_at h 2, cell_at h 3⟩
theorem free4 {w : World} {a : Nat} {cs : Array Value} {t : TypeId} (h : w.heap[a]? = some (.cells cs t (0, 0))) :
  w.frozen? ⟨a, 0, none⟩ = false ∧ w.frozen? ⟨a, 1, none⟩ = false ∧ w.frozen? ⟨a, 2, none⟩ = false ∧ w.frozen? ⟨a, 3, none⟩ = false :=
 ⟨free_at h 0, free_at h 1, free_at h 2, free_at h 3⟩
theorem Bks.fill {w0 : World} {l : List (Nat × Array Value × TypeId)} {w : World} (h : Bks w0 l w) (i : Nat) {r : Nat} {c0 c1 c2 c3 : Value} {t : TypeId} (e : l[i]? = some (r, #[c0, c1, c2, c3], t)) (a b c d : Value) :
  (((((w.setCell ⟨r, 0, none⟩ a).setCell ⟨r, 1, none⟩ b).setCell ⟨r, 2, none⟩ c).setCell ⟨r, 3, none⟩ d).heap[r]? = some (.cells #[a, b, c, d] t (0, 0))) ∧ Below w0.heap.size w0 ((((w.setCell ⟨r, 0, none⟩ a).setCell ⟨r, 1, none⟩ b).setCell ⟨r, 2, none⟩ c).setCell ⟨r, 3, none⟩ d) :=
 ⟨set_at (set_at (set_at (set_at (h.at_ i e) 0 a) 1 b) 2 c) 3 d, (((h.below.setCell (h.lo i e) a).setCell (h.lo i e) b).setCell (h.lo i e) c).setCell (h.lo i e) d⟩
end Go.Proofs.YtbkngnjkaledlaaGreat.P6
