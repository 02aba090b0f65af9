/-
  Texts of the proof of SaidEdit9, side by side: Args9I.
-/
import Derived.Test.YtloajjaaidmaiaaGreatMpE32
/-
  One item as an argument.
-/
namespace Go.Proofs.YtloajjaaidmaiaaGreat.P9
open Go Go.RowKit Go.Lib Go.WideShapes Go.ChangeShapes Go.ChangeAt

section
variable {H : Type} {enc : TypeId × Value → H} {w : World} {base : Nat} {sp : Nat → Bool} {held : Bool}
set_option maxRecDepth 100000 in
theorem item_open {r : Reach} {b0 : Nat} {v : Value} {d : DataW H} {p : List MemPlace} (hv : Value.okWide Tryz.prog w r b0 50 v) (h : DataW.Trod enc Tryz.prog w base sp held 50 v d p) : ∃ q : It, v = q.v := by
  obtain ⟨v0, v1, v2, y0, y1, y2, n, rfl, _, _, f0, f1, f2⟩ := Go.Joins.open_agg3 Tryz.underlying50 (by kernel_rfl) (by kernel_rfl) hv h
  obtain ⟨s, g0, _, w0⟩ := DataW.trod_string Tryz.underlying9 f0
  obtain ⟨t, g1, _, w1⟩ := DataW.trod_string Tryz.underlying9 f1
  obtain ⟨k, g2, _, w2⟩ := DataW.trod_int Tryz.underlying3 f2
  obtain rfl : v0 = .string s := by simpa using g0
  obtain rfl : v1 = .string t := by simpa using g1
  obtain rfl : v2 = .int .i64 k := by simpa using g2
  exact ⟨⟨s, t, k⟩, rfl⟩
end

end Go.Proofs.YtloajjaaidmaiaaGreat.P9
