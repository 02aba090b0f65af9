/-
  The statements' first call; which ids may be free.
-/
import Derived.Test.YtoiaamijjcjjiaaG12
namespace Go.Proofs.Ytoiaamijjcjjiaa.P7
open Go Go.RowKit Go.Lib Go.Proofs.Ytoiaamijjcjjiaa.PK

theorem rises_10 : Rises 10 [3, 5, 6] := ⟨by omega, by omega, by unfold Rising; decide, by decide⟩
def fa0 : FM := ⟨.slice none 0 0, .slice none 0 0, 10, [3, 5, 6], []⟩
def fa1 : FM := { fa0 with L := [3] }
theorem fa0_take : fa0.take ((2 : Nat) : Int) = (fa1, 5, 0) := by
  have h : fa0.hit 2 = some 5 := hit_some (k := 1) rfl (fun b hb ha => by
    have e : b = 3 := by simpa [fa0] using hb
    subst e
    have := ha 1 (by omega)
    simp [fa0] at this) (fun j hj => by
    have hj2 : j = 0 ∨ j = 1 := by omega
    rcases hj2 with rfl | rfl <;> simp [fa0])
  rw [FM.take_hit (by omega) (by omega) h]
  rfl
theorem fa1_take : fa1.take ((2 : Nat) : Int) = ({ fa1 with pages := 12 }, 10, 0) := by
  have h : fa1.hit 2 = none := hit_none (fun b hb ha => by
    have e : b = 3 := by simpa [fa1, fa0] using hb
    subst e
    have := ha 1 (by omega)
    simp [fa1, fa0] at this)
  rw [FM.take_grow (by omega) (by omega) h (by show ¬ 4000 < (10 : Int) + _; omega)]
  rfl
set_option maxRecDepth 100000 in
theorem alive_any (w : World) : Calls Try.prog 7 #[] w fun e w' => e = .returned (.bool true) ∧ Below w.heap.size w w' := by
  have hIL : IL (w.alloc (.cells #[.int .i64 3, .int .i64 5, .int .i64 6] 3)) (.slice (some ⟨w.heap.size, 0, none⟩) 3 3) [3, 5, 6] :=
    ⟨_, 3, rfl, (fun e => by cases e), by decide, fun _ => ⟨w.heap.size, 0, rfl, by simp, fun i x hi => by
      rw [Nat.zero_add, cell_at (new_at w _ _)]
      have hlt := (List.getElem?_eq_some_iff.1 hi).1
      have hi3 : i = 0 ∨ i = 1 ∨ i = 2 := by simp at hlt; omega
      rcases hi3 with rfl | rfl | rfl
      · cases hi; rfl
      · cases hi; rfl
      · cases hi; rfl⟩⟩
  have HL := Lib.hid (load_q _ 10 _ _ hIL rises_10)
  have HB0 := Lib.hid (below_new w (.cells #[.int .i64 3, .int .i64 5, .int .i64 6] 3))
  have HN : Hid (∀ W, Calls Try.prog 30 #[.int .i64 114] W fun e w' => e = .returned (.int .i64 2) ∧ W = w') := fun W => need_ W 114 (by omega) (by omega)
  clear hIL
  go_enter Try.func7, Try.ntmps7
  go_wp2_with (first
    | (go_at_call 9; (with_reducible refine HL.out.mono ?_); rintro e w2 ⟨r, rfl, hq⟩; have HQ := Lib.hid (show ∀ a, a = 0 → QF _ [] r fa0 w2 from fun _ _ => hq); have HT := Lib.hid (show Calls Try.prog 13 #[.pointer (some ⟨r, 0, none⟩), .int .i64 2] w2 fun e w' => e = .returned (.tuple #[.int .i64 5, .int .i64 0]) ∧ QF _ [] r fa1 w' from (hq.take ((2 : Nat) : Int)).mono fun e w' ⟨h1, h2⟩ => by rw [show FM.take ⟨.slice none 0 0, .slice none 0 0, 10, [3, 5, 6], []⟩ ((2 : Nat) : Int) = (fa1, 5, 0) from fa0_take] at h1 h2; exact ⟨h1, h2⟩); clear hq)
    | (go_at_call 13; (with_reducible refine HT.out.mono ?_); rintro e w3 ⟨rfl, hq⟩; have HT2 := Lib.hid (show Calls Try.prog 13 #[.pointer (some ⟨r, 0, none⟩), .int .i64 2] w3 fun e w' => e = .returned (.tuple #[.int .i64 10, .int .i64 0]) ∧ QF _ [] r { fa1 with pages := 12 } w' from (hq.take ((2 : Nat) : Int)).mono fun e w' ⟨h1, h2⟩ => by rw [fa1_take] at h1 h2; exact ⟨h1, h2⟩); clear hq)
    | (go_at_call 13; (with_reducible refine HT2.out.mono ?_); rintro e w4 ⟨rfl, hq⟩; have HPg := Lib.hid hq.pages_; have HBe := Lib.hid hq.below; clear hq)
    | (go_at_call 27; (with_reducible refine HPg.out.mono ?_); rintro e w5 ⟨rfl, rfl⟩)
    | (go_at_call 30; (with_reducible refine (HN.out _).mono ?_); rintro e w6 ⟨rfl, rfl⟩))
  go_ret
  exact ⟨rfl, thenBelow HB0.out HBe.out⟩

end Go.Proofs.Ytoiaamijjcjjiaa.P7
