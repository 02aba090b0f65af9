/-
  A page as an argument.
-/
import Derived.Test.YtcoaabplhkmpfaaAlive5
import Derived.Lib.SmallJoins
import Derived.OpenShut
namespace Go.Proofs.Ytcoaabplhkmpfaa.P5
open Go Go.RowKit Go.Lib Go.WideShapes Go.ChangeShapes Go.ChangeAt

section
variable {H : Type} {enc : TypeId × Value → H} {w : World} {base : Nat} {sp : Nat → Bool} {held : Bool}
theorem page_open {r : Reach} {b0 : Nat} {v : Value} {d : DataW H} {p : List MemPlace} (hv : Value.okWide Try.prog w r b0 23 v) (h : DataW.Trod enc Try.prog w base sp held 23 v d p) : ∃ q : Pg, v = q.v := by
  obtain ⟨v0, v1, v2, v3, y0, y1, y2, y3, n, rfl, _, _, f0, f1, f2, f3⟩ := Go.Joins.open_agg4 Try.underlying23 (by kernel_rfl) (by kernel_rfl) hv h
  obtain ⟨k, g0, _, w0⟩ := DataW.trod_int Try.underlying3 f0
  obtain ⟨i, g1, _, w1⟩ := DataW.trod_int Try.underlying3 f1
  obtain ⟨t, g2, _, w2⟩ := DataW.trod_int Try.underlying3 f2
  obtain ⟨s, g3, _, w3⟩ := DataW.trod_string Try.underlying9 f3
  obtain rfl : v0 = .int .i64 k := by simpa using g0
  obtain rfl : v1 = .int .i64 i := by simpa using g1
  obtain rfl : v2 = .int .i64 t := by simpa using g2
  obtain rfl : v3 = .string s := by simpa using g3
  exact ⟨⟨k, i, t, s⟩, rfl⟩
end

end Go.Proofs.Ytcoaabplhkmpfaa.P5
