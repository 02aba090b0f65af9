/-
  Children: the reference's ValidKid.
-/
import Derived.Test.YthihjkdankbnjaaGreatT0
namespace Go.Proofs.YthihjkdankbnjaaGreat.P10
open Go Go.RowKit Go.Lib Go.Proofs.YthihjkdankbnjaaGreat.PK

set_option maxHeartbeats 4000000 in
theorem rvalid_any (w : World) (x : It) :
    Calls Tryz.prog 17 #[x.v] w fun r w' => r = .returned (.bool x.ok) ∧ Below w.heap.size w w' := by
  obtain ⟨key, page⟩ := x
  by_cases h0 : key.size ≤ 32
  · by_cases h1 : 2 ≤ page
    · by_cases h2 : page ≤ 3999
      · have e : It.ok ⟨key, page⟩ = true := decide_eq_true ⟨h0, h1, h2⟩
        rw [e]
        clear e
        have b0x : decide ((key.size : Int) ≤ 32) = true := decide_eq_true (by omega)
        have b0y : decide (key.size ≤ 32) = true := decide_eq_true (by omega)
        have b1x : decide ((2 : Int) ≤ page) = true := decide_eq_true (by omega)
        have b1y : decide (page ≥ (2 : Int)) = true := decide_eq_true (by omega)
        have b2x : decide (page < (4000 : Int)) = true := decide_eq_true (by omega)
        clear h0 h1 h2
        unfold It.v
        go_enter Tryz.func17, Tryz.ntmps17
        go_wp2
        go_ret
        exact ⟨rfl, below_new _ _⟩
      · have e : It.ok ⟨key, page⟩ = false := decide_eq_false (fun h => h2 (h.2.2))
        rw [e]
        clear e
        have b0x : decide ((key.size : Int) ≤ 32) = true := decide_eq_true (by omega)
        have b0y : decide (key.size ≤ 32) = true := decide_eq_true (by omega)
        have b1x : decide ((2 : Int) ≤ page) = true := decide_eq_true (by omega)
        have b1y : decide (page ≥ (2 : Int)) = true := decide_eq_true (by omega)
        have b2x : decide (page < (4000 : Int)) = false := decide_eq_false (by omega)
        clear h0 h1 h2
        unfold It.v
        go_enter Tryz.func17, Tryz.ntmps17
        go_wp2
        go_ret
        exact ⟨rfl, below_new _ _⟩
    · have e : It.ok ⟨key, page⟩ = false := decide_eq_false (fun h => h1 (h.2.1))
      rw [e]
      clear e
      have b0x : decide ((key.size : Int) ≤ 32) = true := decide_eq_true (by omega)
      have b0y : decide (key.size ≤ 32) = true := decide_eq_true (by omega)
      have b1x : decide ((2 : Int) ≤ page) = false := decide_eq_false (by omega)
      have b1y : decide (page ≥ (2 : Int)) = false := decide_eq_false (by omega)
      clear h0 h1
      unfold It.v
      go_enter Tryz.func17, Tryz.ntmps17
      go_wp2
      go_ret
      exact ⟨rfl, below_new _ _⟩
  · have e : It.ok ⟨key, page⟩ = false := decide_eq_false (fun h => h0 (h.1))
    rw [e]
    clear e
    have b0x : decide ((key.size : Int) ≤ 32) = false := decide_eq_false (by omega)
    have b0y : decide (key.size ≤ 32) = false := decide_eq_false (by omega)
    clear h0
    unfold It.v
    go_enter Tryz.func17, Tryz.ntmps17
    go_wp2
    go_ret
    exact ⟨rfl, below_new _ _⟩

end Go.Proofs.YthihjkdankbnjaaGreat.P10
