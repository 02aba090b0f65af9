/-
  Items: the reference's ValidItem.
-/
import Derived.Test.YtloajjaaidmaiaaV0
namespace Go.Proofs.Ytloajjaaidmaiaa.P9
open Go Go.RowKit Go.Lib Go.Proofs.Ytloajjaaidmaiaa.PK

set_option maxHeartbeats 4000000 in
theorem rvalid_any (w : World) (x : It) :
    Calls Try.prog 8 #[x.v] w fun r w' => r = .returned (.bool x.ok) ∧ Below w.heap.size w w' := by
  obtain ⟨key, val, kind⟩ := x
  by_cases h0 : 1 ≤ key.size
  · by_cases h1 : key.size ≤ 32
    · by_cases h2 : 0 ≤ kind
      · by_cases h3 : kind ≤ 2
        · by_cases h4 : val.size ≤ 96
          · have e : It.ok ⟨key, val, kind⟩ = true := decide_eq_true ⟨h0, h1, h2, h3, h4⟩
            rw [e]
            clear e
            have b0x : decide ((1 : Int) ≤ (key.size : Int)) = true := decide_eq_true (by omega)
            have b0y : decide (1 ≤ key.size) = true := decide_eq_true (by omega)
            have b0z : decide (0 < key.size) = true := decide_eq_true (by omega)
            have b1x : decide ((key.size : Int) ≤ 32) = true := decide_eq_true (by omega)
            have b1y : decide (key.size ≤ 32) = true := decide_eq_true (by omega)
            have b2x : decide ((0 : Int) ≤ kind) = true := decide_eq_true (by omega)
            have b3x : decide (kind ≤ (2 : Int)) = true := decide_eq_true (by omega)
            have b4x : decide ((val.size : Int) ≤ 96) = true := decide_eq_true (by omega)
            have b4y : decide (val.size ≤ 96) = true := decide_eq_true (by omega)
            clear h0 h1 h2 h3 h4
            unfold It.v
            go_enter Try.func8, Try.ntmps8
            go_wp2
            go_ret
            exact ⟨rfl, below_new _ _⟩
          · have e : It.ok ⟨key, val, kind⟩ = false := decide_eq_false (fun h => h4 (h.2.2.2.2))
            rw [e]
            clear e
            have b0x : decide ((1 : Int) ≤ (key.size : Int)) = true := decide_eq_true (by omega)
            have b0y : decide (1 ≤ key.size) = true := decide_eq_true (by omega)
            have b0z : decide (0 < key.size) = true := decide_eq_true (by omega)
            have b1x : decide ((key.size : Int) ≤ 32) = true := decide_eq_true (by omega)
            have b1y : decide (key.size ≤ 32) = true := decide_eq_true (by omega)
            have b2x : decide ((0 : Int) ≤ kind) = true := decide_eq_true (by omega)
            have b3x : decide (kind ≤ (2 : Int)) = true := decide_eq_true (by omega)
            have b4x : decide ((val.size : Int) ≤ 96) = false := decide_eq_false (by omega)
            have b4y : decide (val.size ≤ 96) = false := decide_eq_false (by omega)
            clear h0 h1 h2 h3 h4
            unfold It.v
            go_enter Try.func8, Try.ntmps8
            go_wp2
            go_ret
            exact ⟨rfl, below_new _ _⟩
        · have e : It.ok ⟨key, val, kind⟩ = false := decide_eq_false (fun h => h3 (h.2.2.2.1))
          rw [e]
          clear e
          have b0x : decide ((1 : Int) ≤ (key.size : Int)) = true := decide_eq_true (by omega)
          have b0y : decide (1 ≤ key.size) = true := decide_eq_true (by omega)
          have b0z : decide (0 < key.size) = true := decide_eq_true (by omega)
          have b1x : decide ((key.size : Int) ≤ 32) = true := decide_eq_true (by omega)
          have b1y : decide (key.size ≤ 32) = true := decide_eq_true (by omega)
          have b2x : decide ((0 : Int) ≤ kind) = true := decide_eq_true (by omega)
          have b3x : decide (kind ≤ (2 : Int)) = false := decide_eq_false (by omega)
          clear h0 h1 h2 h3
          unfold It.v
          go_enter Try.func8, Try.ntmps8
          go_wp2
          go_ret
          exact ⟨rfl, below_new _ _⟩
      · have e : It.ok ⟨key, val, kind⟩ = false := decide_eq_false (fun h => h2 (h.2.2.1))
        rw [e]
        clear e
        have b0x : decide ((1 : Int) ≤ (key.size : Int)) = true := decide_eq_true (by omega)
        have b0y : decide (1 ≤ key.size) = true := decide_eq_true (by omega)
        have b0z : decide (0 < key.size) = true := decide_eq_true (by omega)
        have b1x : decide ((key.size : Int) ≤ 32) = true := decide_eq_true (by omega)
        have b1y : decide (key.size ≤ 32) = true := decide_eq_true (by omega)
        have b2x : decide ((0 : Int) ≤ kind) = false := decide_eq_false (by omega)
        clear h0 h1 h2
        unfold It.v
        go_enter Try.func8, Try.ntmps8
        go_wp2
        go_ret
        exact ⟨rfl, below_new _ _⟩
    · have e : It.ok ⟨key, val, kind⟩ = false := decide_eq_false (fun h => h1 (h.2.1))
      rw [e]
      clear e
      have b0x : decide ((1 : Int) ≤ (key.size : Int)) = true := decide_eq_true (by omega)
      have b0y : decide (1 ≤ key.size) = true := decide_eq_true (by omega)
      have b0z : decide (0 < key.size) = true := decide_eq_true (by omega)
      have b1x : decide ((key.size : Int) ≤ 32) = false := decide_eq_false (by omega)
      have b1y : decide (key.size ≤ 32) = false := decide_eq_false (by omega)
      clear h0 h1
      unfold It.v
      go_enter Try.func8, Try.ntmps8
      go_wp2
      go_ret
      exact ⟨rfl, below_new _ _⟩
  · have e : It.ok ⟨key, val, kind⟩ = false := decide_eq_false (fun h => h0 (h.1))
    rw [e]
    clear e
    have b0x : decide ((1 : Int) ≤ (key.size : Int)) = false := decide_eq_false (by omega)
    have b0y : decide (1 ≤ key.size) = false := decide_eq_false (by omega)
    have b0z : decide (0 < key.size) = false := decide_eq_false (by omega)
    clear h0
    unfold It.v
    go_enter Try.func8, Try.ntmps8
    go_wp2
    go_ret
    exact ⟨rfl, below_new _ _⟩

end Go.Proofs.Ytloajjaaidmaiaa.P9
