/-
  Metas that are written in turn: all that one round wants, whichever slot is next. No program.
-/
import Derived.Test.YtnmklhajpcnkoaaMt16
namespace Go.Proofs.Ytnmklhajpcnkoaa.P6
open Go Go.RowKit Go.Lib Go.Proofs.Ytnmklhajpcnkoaa.P0 Go.Proofs.Ytnmklhajpcnkoaa.P2 Go.Proofs.Ytnmklhajpcnkoaa.P5

theorem old_size {k : Nat} {s0 s1 : ByteArray} (h : Turn k s0 s1) : (oldOf (slotOf k s0 s1)).size = 256 := by
  by_cases h2 : 2 ≤ k
  · obtain ⟨q, hq, _, hqs⟩ := h.old_ h2
    unfold oldOf slotOf
    rw [hqs, if_neg (fun e => by have := q.sector_size hq; rw [e] at this; exact absurd this (by decide))]
    exact q.sector_size hq
  · unfold oldOf slotOf
    rw [h.none_ (by omega), if_pos rfl, zer_size]
theorem turn_pack {k : Nat} {s0 s1 : ByteArray} (h : Turn k s0 s1) (hk : k < 30) {p : Mt} (hp : p.ok) (ht : p.tx = k + 1) {c : Nat} (hc : c ≤ 256) :
    ∃ (j : Nat) (sJ t0 t1 n0 n1 O T : ByteArray), j < 2 ∧ ((k : Int) + 1) % 2 = j ∧
      (#[Value.string s0, Value.string s1] : Array Value)[j]? = some (.string sJ) ∧
      O.size = 256 ∧ (sJ = ⟨#[]⟩ → zer 256 = O) ∧ (sJ ≠ ⟨#[]⟩ → sJ = O) ∧ T = tornOf p.sector O c ∧
      (#[Value.string s0, Value.string s1] : Array Value).setIfInBounds j (.string T) = #[.string t0, .string t1] ∧
      (#[Value.string s0, Value.string s1] : Array Value).setIfInBounds j (.string p.sector) = #[.string n0, .string n1] ∧
      ((T = p.sector → chM t0 t1 = p ∧ chE t0 t1 = 0) ∧ (T ≠ p.sector → k = 0 → chE t0 t1 = 25) ∧ (T ≠ p.sector → 1 ≤ k → (chM t0 t1).tx = k ∧ chE t0 t1 = 0)) ∧
      Turn (k + 1) n0 n1 ∧ chM n0 n1 = p ∧ chE n0 n1 = 0 := by
  have h1 := turn_torn h hk hp ht hc rfl rfl
  have h2 := turn_next h hp ht rfl rfl
  refine ⟨1 - k % 2, slotOf k s0 s1, _, _, _, _, oldOf (slotOf k s0 s1), tornOf p.sector (oldOf (slotOf k s0 s1)) c, by omega, by omega, ?_, old_size h, fun e => (if_pos e).symm, fun e => (if_neg e).symm, rfl, ?_, ?_, h1, h2⟩
  · unfold slotOf
    by_cases hpar : k % 2 = 0
    · rw [if_pos hpar, show 1 - k % 2 = 1 by omega]; rfl
    · rw [if_neg hpar, show 1 - k % 2 = 0 by omega]; rfl
  · by_cases hpar : k % 2 = 0
    · rw [if_pos hpar, if_pos hpar, show 1 - k % 2 = 1 by omega]; rfl
    · rw [if_neg hpar, if_neg hpar, show 1 - k % 2 = 0 by omega]; rfl
  · by_cases hpar : k % 2 = 0
    · rw [if_pos hpar, if_pos hpar, show 1 - k % 2 = 1 by omega]; rfl
    · rw [if_neg hpar, if_neg hpar, show 1 - k % 2 = 0 by omega]; rfl

end Go.Proofs.Ytnmklhajpcnkoaa.P6
