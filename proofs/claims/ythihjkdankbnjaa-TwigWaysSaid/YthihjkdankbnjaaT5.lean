/-
  Kids: the reference's ReadKids.
-/
import Derived.Test.YthihjkdankbnjaaT4
import Derived.Deep.Cut
namespace Go.Proofs.Ythihjkdankbnjaa.P10
open Go Go.RowKit Go.Lib Go.Proofs.Ythihjkdankbnjaa.PK
open Go.Proofs.Ythihjkdankbnjaa.P0 (low str str_size low_length size_app text_ext text_app str_list same_true same_false)
open Go.Proofs.Ythihjkdankbnjaa.PP (refNum refTxt refStr refFin Fr refStr_size num_lt wrap_small)

theorem num1_range (s : ByteArray) (e : Int) : 0 ≤ (refNum 1 s e).1 ∧ (refNum 1 s e).1 ≤ 255 := by
  have h1 := refStr_size 1 s e
  have h2 := num_lt (refStr ((1 : Nat) : Int) s e).1.data.toList
  have h3 : 256 ^ (refStr ((1 : Nat) : Int) s e).1.data.toList.length ≤ 256 ^ 1 := Nat.pow_le_pow_right (by omega) (by simpa using h1)
  have e1 : (refNum 1 s e).1 = wrap64 ((PP.num (refStr ((1 : Nat) : Int) s e).1.data.toList : Nat) : Int) := rfl
  have e2 : wrap64 ((PP.num (refStr ((1 : Nat) : Int) s e).1.data.toList : Nat) : Int) = ((PP.num (refStr ((1 : Nat) : Int) s e).1.data.toList : Nat) : Int) := PP.wrap_small _ (by omega)
  rw [e1, e2]
  omega

theorem runR_len (B : ByteArray) (e : Int) : ∀ j, (runR B e j).2.2.length ≤ j
  | 0 => Nat.le_refl _
  | j + 1 => by
    have ih := runR_len B e j
    by_cases h : (runR B e j).2.1 = 0
    · rw [runR_next h]
      show ((runR B e j).2.2 ++ [_]).length ≤ j + 1
      rw [List.length_append, List.length_singleton]
      omega
    · rw [runR_stay h (Nat.le_succ j)]
      omega

theorem cellsI_snoc (l : List It) (c : It) : (cellsI (l ++ [c])).flatten = (cellsI l).flatten ++ [.string c.key, .int .i64 c.page] := by
  simp [cellsI, It.cells]
theorem owns_its {w : World} {lo : Nat} {v : Value} {l : List It} (h : w.ownsRow lo 26 2 v l.length (cellsI l).flatten) (hl : l.length ≤ 1000000) : ItsIn w v l := by
  refine tRow_elems (κ := kKids) (lo := lo) ?_ (by rw [cellsI_length]; omega) (cellsI_ok l)
  show w.ownsRow lo 26 2 v (cellsI l).length (cellsI l).flatten
  rw [cellsI_length]
  exact h

end Go.Proofs.Ythihjkdankbnjaa.P10
