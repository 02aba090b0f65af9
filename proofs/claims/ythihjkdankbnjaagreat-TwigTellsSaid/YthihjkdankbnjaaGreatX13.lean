/-
  Both readers tell the same.
-/
import Derived.Test.YthihjkdankbnjaaGreatX3a
import Derived.Test.YthihjkdankbnjaaGreatT4
namespace Go.Proofs.YthihjkdankbnjaaGreat.P10
open Go Go.RowKit Go.Lib Go.Proofs.YthihjkdankbnjaaGreat.PK
open Go.Proofs.YthihjkdankbnjaaGreat.PP (getNum getTxt getStr getFin refNum refTxt refStr refFin Rel)

theorem getNum_off {n : Nat} {s : ByteArray} {e : Int} (h : e ≠ 0) : getNum n s e = (0, s, e) := by
  unfold PP.getNum
  rw [if_neg h]
theorem getTxt_off {s : ByteArray} {e : Int} (h : e ≠ 0) : getTxt s e = (⟨#[]⟩, s, e) := by
  unfold PP.getTxt
  rw [getNum_off h]
  unfold PP.getStr
  rw [if_neg h]
theorem rel_run {s B : ByteArray} {bad e : Int} (h : Rel s bad B e) : ∀ j, Rel (runP (s, bad, []) j).1 (runP (s, bad, []) j).2.1 (runR B e j).1 (runR B e j).2.1 ∧ ((runR B e j).2.1 = 0 → (runP (s, bad, []) j).2.2 = (runR B e j).2.2)
  | 0 => ⟨h, fun _ => rfl⟩
  | j + 1 => by
    obtain ⟨h1, h2⟩ := rel_run h j
    by_cases h0 : (runR B e j).2.1 = 0
    · rw [runR_next h0]
      have e2 := h2 h0
      obtain ⟨n1, n2⟩ := h1.num 2
      obtain ⟨t1, t2⟩ := n2.txt
      have e1 : runP (s, bad, []) (j + 1) = stepP (runP (s, bad, []) j) := rfl
      rw [e1]
      unfold stepP stepR
      simp only
      rw [n1, t1, e2]
      exact ⟨t2, fun _ => rfl⟩
    · rw [runR_stay h0 (Nat.le_succ j)]
      refine ⟨?_, fun q => absurd q h0⟩
      have hb : (runP (s, bad, []) j).2.1 ≠ 0 := by rw [← h1.1]; exact h0
      have e1 : runP (s, bad, []) (j + 1) = stepP (runP (s, bad, []) j) := rfl
      rw [e1]
      unfold stepP
      simp only
      rw [getNum_off hb, getTxt_off hb]
      exact h1
theorem read_same (b : ByteArray) : readP b = readR b := by
  have h0 := (Rel.start b).num 1
  obtain ⟨n1, n2⟩ := h0
  obtain ⟨h1, h2⟩ := rel_run n2 (refNum 1 b 0).1.toNat
  have eP : allP b = runP ((getNum 1 b 0).2.1, (getNum 1 b 0).2.2, []) (refNum 1 b 0).1.toNat := by unfold allP; rw [n1]
  have eR : allR b = runR (refNum 1 b 0).2.1 (refNum 1 b 0).2.2 (refNum 1 b 0).1.toNat := rfl
  rw [← eP, ← eR] at h1 h2
  have hf := h1.fin
  unfold readP readR
  rw [← hf]
  by_cases hz : refFin (allR b).1 (allR b).2.1 = 0
  · rw [if_pos hz, if_pos hz, h2 (allR_sum hz).1]
  · rw [if_neg hz, if_neg hz]

end Go.Proofs.YthihjkdankbnjaaGreat.P10
