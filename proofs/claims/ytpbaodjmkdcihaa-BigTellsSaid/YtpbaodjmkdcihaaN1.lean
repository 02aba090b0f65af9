/-
  How many pages a value needs: package big's Need, and the reference's.
-/
import Derived.Test.YtpbaodjmkdcihaaN0
namespace Go.Proofs.Ytpbaodjmkdcihaa.P11
open Go Go.RowKit Go.Lib Go.Proofs.Ytpbaodjmkdcihaa.PK

/-- how many pages so many bytes need -/
def needN (n : Nat) : Nat := max ((n + 231) / 232) 1
def needB (n : Int) : Int := if n < 0 then 0 else (needN n.toNat : Nat)
theorem needB_nat (n : Nat) : needB (n : Int) = (needN n : Nat) := by unfold needB; rw [if_neg (by omega), Int.toNat_natCast]
theorem needN_pos (n : Nat) : 1 ≤ needN n := by unfold needN; omega
theorem needN_le (n : Nat) : needN n ≤ n + 1 := by unfold needN; omega
theorem needN_at {n : Nat} (h : 0 < n) : 232 * (needN n - 1) < n ∧ n ≤ 232 * needN n := by unfold needN; omega
theorem ret_int {a b : Int} (h : a = b) : Ending.returned (.int .i64 a) = Ending.returned (.int .i64 b) := by rw [h]
theorem need_cast (m : Nat) : ((max ((m + 231) / 232) 1 : Nat) : Int) = if 1 ≤ ((m : Int) + 231) / 232 then ((m : Int) + 231) / 232 else 1 := by
  by_cases h : 1 ≤ (m + 231) / 232
  · rw [Nat.max_eq_left h, if_pos (by omega)]
    omega
  · rw [Nat.max_eq_right (by omega), if_neg (by omega)]
    rfl
set_option maxRecDepth 100000 in
theorem rNeed_any (w : World) (n : Int) (h : n ≤ 1000000) : Calls Try.prog 13 #[.int .i64 n] w fun e w' => e = .returned (.int .i64 (needB n)) ∧ Below w.heap.size w w' := by
  by_cases h0 : n < 0
  · have e : needB n = 0 := by unfold needB; rw [if_pos h0]
    have k1 : decide (n < 0) = true := decide_eq_true h0
    rw [e]
    clear h e
    go_enter Try.func13, Try.ntmps13
    go_wp2
    go_ret
    exact ⟨rfl, Below.refl _ _⟩
  · obtain ⟨m, rfl⟩ := Int.eq_ofNat_of_zero_le (show 0 ≤ n by omega)
    rw [needB_nat]
    unfold needN
    have k1 : decide ((m : Int) < 0) = false := decide_eq_false h0
    have hm : m ≤ 1000000 := by omega
    clear h h0
    go_enter Try.func13, Try.ntmps13
    go_wp2
    all_goals go_ret
    all_goals exact ⟨ret_int (by rw [need_cast]; split <;> omega), Below.refl _ _⟩
set_option maxRecDepth 100000 in
theorem need_any (w : World) (n : Int) (h : n ≤ 1000000) : Calls Try.prog 12 #[.int .i64 n] w fun e w' => e = .returned (.int .i64 (needB n)) ∧ Below w.heap.size w w' := by
  by_cases h0 : n < 0
  · have e : needB n = 0 := by unfold needB; rw [if_pos h0]
    have k1 : decide (n < 0) = true := decide_eq_true h0
    rw [e]
    clear h e
    go_enter Try.func12, Try.ntmps12
    go_wp2
    go_ret
    exact ⟨rfl, Below.refl _ _⟩
  · obtain ⟨m, rfl⟩ := Int.eq_ofNat_of_zero_le (show 0 ≤ n by omega)
    rw [needB_nat]
    unfold needN
    have k1 : decide ((m : Int) < 0) = false := decide_eq_false h0
    have hm : m ≤ 1000000 := by omega
    clear h h0
    go_enter Try.func12, Try.ntmps12
    go_wp2
    all_goals go_ret
    all_goals exact ⟨ret_int (by rw [need_cast]; split <;> omega), Below.refl _ _⟩

end Go.Proofs.Ytpbaodjmkdcihaa.P11
