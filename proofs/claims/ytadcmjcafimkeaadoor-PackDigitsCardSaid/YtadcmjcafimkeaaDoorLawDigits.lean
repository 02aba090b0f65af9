/-
  P103: every int in digits, every text as an int: the walk of the statement PackDigits.
-/
import Derived.Test.YtadcmjcafimkeaaDoorNumC
namespace Go.Proofs.YtadcmjcafimkeaaDoor.P1
open Go Go.RowKit Go.Lib

theorem both_numbers (s : ByteArray) : ∃ x e : Int,
    (∀ w, Calls Tryd.prog 38 #[.string s] w fun r w' => r = .returned (.tuple #[.int .i64 x, .int .i64 e]) ∧ w = w') ∧
    (∀ w, Calls Tryd.prog 39 #[.string s] w fun r w' => r = .returned (.tuple #[.int .i64 x, .int .i64 e]) ∧ w = w') := by
  have hc : Cut s ⟨(Lib.trimPrefix s.data.toList [45]).toArray⟩ (Lib.hasPrefix s.data.toList [45]) := ⟨rfl, rfl⟩
  generalize (⟨(Lib.trimPrefix s.data.toList [45]).toArray⟩ : ByteArray) = r at hc
  generalize Lib.hasPrefix s.data.toList [45] = b at hc
  by_cases h : NumOk b r
  · exact ⟨signed b (vals r.data.toList), 0, fun w => cnum_any w s r b true hc ⟨fun _ => h, fun _ => rfl⟩, fun w => rnum_any w s r b true hc ⟨fun _ => h, fun _ => rfl⟩⟩
  · exact ⟨0, 1, fun w => cnum_any w s r b false hc ⟨fun e => (by cases e), fun e => absurd e h⟩, fun w => rnum_any w s r b false hc ⟨fun e => (by cases e), fun e => absurd e h⟩⟩

theorem digits_walk (w : World) (v : Int) (s : ByteArray) (hv0 : -9223372036854775808 ≤ v) (hv1 : v ≤ 9223372036854775807) (hp : Pow w) :
    Calls Tryd.prog 5 #[.int .i64 v, .string s] w fun r w' => r = .returned (.bool true) ∧ Below w.heap.size w w' := by
  have K := Lib.hid (alive_any w hp)
  have HP := Lib.hid hp
  by_cases hs : s.size ≤ 60
  · obtain ⟨x, e, hx1, hx2⟩ := both_numbers s
    have N1 := Lib.hid hx1
    have N2 := Lib.hid hx2
    have hD1 : ∀ w1, Below w.heap.size w w1 → Calls Tryd.prog 40 #[.int .i64 v] w1 fun r w' => r = .returned (.string ⟨(Lib.itoa v).toArray⟩) ∧ Below w1.heap.size w1 w' := fun w1 h => digits_any w1 v hv0 hv1 (hp.below h hp.lt)
    have hD2 : ∀ w1, Calls Tryd.prog 41 #[.int .i64 v] w1 fun r w' => r = .returned (.string ⟨(Lib.itoa v).toArray⟩) ∧ Below w1.heap.size w1 w' := fun w1 => rDigits_any w1 v hv0 hv1
    generalize (⟨(Lib.itoa v).toArray⟩ : ByteArray) = t at hD1 hD2
    have D1 := Lib.hid hD1
    have D2 := Lib.hid hD2
    have k1 : decide ((60 : Int) < (s.size : Int)) = false := decide_eq_false (by omega)
    clear hx1 hx2 hD1 hD2 hp hv0 hv1
    go_enter Tryd.func5, Tryd.ntmps5
    go_wp2_with (first
      | (go_at_call 11; refine K.out.mono ?_; rintro e w1 ⟨rfl, hb⟩)
      | (go_at_call 38; refine (N1.out _).mono ?_; rintro e w2 ⟨rfl, rfl⟩)
      | (go_at_call 39; refine (N2.out _).mono ?_; rintro e w2 ⟨rfl, rfl⟩)
      | (go_at_call 40; refine (D1.out _ hb).mono ?_; rintro e w3 ⟨rfl, hb3⟩)
      | (go_at_call 41; refine (D2.out _).mono ?_; rintro e w4 ⟨rfl, hb4⟩))
    go_ret
    have h3 := hb.trans (hb3.mono hb.size)
    exact ⟨rfl, h3.trans (hb4.mono h3.size)⟩
  · have k1 : decide ((60 : Int) < (s.size : Int)) = true := decide_eq_true (by omega)
    clear hp hv0 hv1
    go_enter Tryd.func5, Tryd.ntmps5
    go_wp2_with (go_at_call 11; refine K.out.mono ?_; rintro e w1 ⟨rfl, hb⟩)
    go_ret
    exact ⟨rfl, hb⟩

end Go.Proofs.YtadcmjcafimkeaaDoor.P1
