/-
  Kids: the reference's Text, and its LayKids.
-/
import Derived.Test.YthihjkdankbnjaaT2
import Derived.Test.YthihjkdankbnjaaBase0
namespace Go.Proofs.Ythihjkdankbnjaa.P10
open Go Go.RowKit Go.Lib Go.Proofs.Ythihjkdankbnjaa.PK
open Go.Proofs.Ythihjkdankbnjaa.P0 (low str str_size low_length size_app text_ext text_app str_list)

/-- a text, its length ahead of it -/
def textB (s : ByteArray) : ByteArray := str (low 2 s.size) ++ s
theorem textB_size (s : ByteArray) : (textB s).size = 2 + s.size := by rw [textB, size_app, str_size, low_length]
/-- what is laid of items behind what stands ahead of them -/
def layOn (s : ByteArray) (l : List It) : ByteArray := l.foldl (fun s x => s ++ str (low 2 x.page.toNat) ++ textB x.key) s
theorem layOn_snoc (s : ByteArray) (l : List It) (x : It) : layOn s (l ++ [x]) = layOn s l ++ str (low 2 x.page.toNat) ++ textB x.key := by simp [layOn]
theorem layOn_take {l : List It} {i : Nat} {x : It} (h : l[i]? = some x) (s : ByteArray) : layOn s (l.take (i + 1)) = layOn s (l.take i) ++ str (low 2 x.page.toNat) ++ textB x.key := by
  rw [List.take_add_one, h]
  exact layOn_snoc s _ x
theorem layOn_size (s : ByteArray) (l : List It) : (layOn s l).size = s.size + sumI l := by
  induction l generalizing s with
  | nil => rfl
  | cons x l ih =>
    show (layOn _ l).size = _
    rw [ih, size_app, size_app, textB_size, str_size, low_length, sumI_cons]
    unfold It.need
    omega
/-- the items' bytes -/
def layI (l : List It) : ByteArray := layOn (str (low 1 l.length)) l
theorem layI_size (l : List It) : (layI l).size = 1 + sumI l := by rw [layI, layOn_size, str_size, low_length]
theorem sumI_len (l : List It) : 4 * l.length ≤ sumI l := by
  induction l with
  | nil => exact Nat.le_refl _
  | cons x l ih => rw [sumI_cons, List.length_cons]; unfold It.need; omega
open Classical in
/-- what Lay tells: the bytes, the error -/
noncomputable def layR (l : List It) : ByteArray × Int := if RightI l then (if 1 + sumI l ≤ 232 then (layI l, 0) else (⟨#[]⟩, 2)) else (⟨#[]⟩, 1)

end Go.Proofs.Ythihjkdankbnjaa.P10
