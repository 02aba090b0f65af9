/-
  The law's first call. (Leaf.)
-/
import Derived.Test.YtloajjaaidmaiaaU3
import Derived.Test.YtloajjaaidmaiaaU5
import Derived.Test.YtloajjaaidmaiaaV6
namespace Go.Proofs.Ytloajjaaidmaiaa.P9
open Go Go.RowKit Go.Lib Go.Proofs.Ytloajjaaidmaiaa.PK

def lX : List It := [⟨⟨#[97]⟩, ⟨#[]⟩, 0⟩, ⟨⟨#[99]⟩, ⟨#[120]⟩, 0⟩]
def kX : ByteArray := ⟨#[98]⟩
theorem kb_1 : kb ⟨#[97]⟩ kX = true := by rw [kb_eq]; decide
theorem kb_2 : kb ⟨#[99]⟩ kX = false := by rw [kb_eq]; decide
theorem kb_3 : kb ⟨#[97]⟩ ⟨#[99]⟩ = true := by rw [kb_eq]; decide
theorem lX_right : RightI lX := by
  rw [rightI_pair]
  refine ⟨fun x hx => ?_, ?_⟩
  · rcases List.mem_cons.1 hx with rfl | hx
    · decide
    · obtain rfl := List.mem_singleton.1 hx
      decide
  · refine List.pairwise_cons.2 ⟨fun y hy => ?_, List.pairwise_singleton _ _⟩
    obtain rfl := List.mem_singleton.1 hy
    exact kb_3
theorem lX_low : lowK lX kX = 1 := by
  unfold lX
  rw [lowK_cons, if_pos kb_1, lowK_cons, if_neg (by rw [kb_2]; simp)]
theorem lX_has : hasK lX kX = false := by
  rw [hasK_not]
  intro h
  obtain ⟨x, hx, hk⟩ := lowK_hit lX_right h
  rw [lX_low] at hx
  obtain rfl : (⟨⟨#[99]⟩, ⟨#[120]⟩, 0⟩ : It) = x := Option.some.inj hx
  have h2 := kb_2
  have h3 : kb kX ⟨#[99]⟩ = true := by rw [kb_eq]; decide
  exact kb_ne h3 hk.symm
theorem lX_sum : sumI lX = 13 := by decide
theorem lX_lay : layR lX = (layI lX, 0) := by
  unfold layR
  rw [if_pos lX_right, if_pos (by rw [lX_sum]; omega)]
theorem lX_own (w : World) : OwnI w.heap.size (w.alloc (.cells #[.string ⟨#[97]⟩, .string ⟨#[]⟩, .int .i64 0, .string ⟨#[99]⟩, .string ⟨#[120]⟩, .int .i64 0] 29)) (.slice (some ⟨w.heap.size, 0, none⟩) 2 2) lX :=
  ⟨⟨rfl, .inr ⟨w.heap.size, 2, _, rfl, Nat.le_refl _, new_at w _ _, Nat.le_refl _, by unfold maxLen; omega, rfl, rfl⟩⟩, by show 2 ≤ 1000000; omega⟩

set_option maxRecDepth 100000 in
theorem alive_any (w : World) : Calls Try.prog 7 #[] w fun r w' => r = .returned (.bool true) ∧ Below w.heap.size w w' := by
  have HO := Lib.hid (lX_own w)
  have HB0 : Hid (Below w.heap.size w (w.alloc (.cells #[.string ⟨#[97]⟩, .string ⟨#[]⟩, .int .i64 0, .string ⟨#[99]⟩, .string ⟨#[120]⟩, .int .i64 0] 29))) := below_new _ _
  have HF : Hid (∀ W, OwnI w.heap.size W (.slice (some ⟨w.heap.size, 0, none⟩) 2 2) lX → Calls Try.prog 11 #[.slice (some ⟨w.heap.size, 0, none⟩) 2 2, .string ⟨#[98]⟩] W fun e w' => e = .returned (.tuple #[.int .i64 1, .bool false]) ∧ Below W.heap.size W w') := fun W h => by
    have := find_any W _ lX kX h.its (by decide) lX_right
    rw [lX_low, lX_has] at this
    exact this
  have HL : Hid (∀ W, OwnI w.heap.size W (.slice (some ⟨w.heap.size, 0, none⟩) 2 2) lX → Calls Try.prog 16 #[.slice (some ⟨w.heap.size, 0, none⟩) 2 2] W fun e w' => e = .returned (.tuple #[.string (layI lX), .int .i64 0]) ∧ Below W.heap.size W w') := fun W h => by
    have := lay_any W _ lX h.its (by rw [lX_sum]; omega)
    rw [lX_lay] at this
    exact this
  have HR : Hid (∀ W, Calls Try.prog 17 #[.string (layI lX)] W fun e w' => ∃ v, e = .returned (.tuple #[v, .int .i64 0]) ∧ OwnI W.heap.size w' v lX ∧ Below W.heap.size W w') := fun W => by
    have := read_any W (layI lX) (by rw [layI_size, lX_sum]; omega)
    rw [read_back lX_right (by rw [lX_sum]; omega)] at this
    exact this
  have HZ : Hid (∀ W, OwnI w.heap.size W (.slice (some ⟨w.heap.size, 0, none⟩) 2 2) lX → Calls Try.prog 14 #[.slice (some ⟨w.heap.size, 0, none⟩) 2 2] W fun e w' => e = .returned (.int .i64 14) ∧ Below W.heap.size W w') := fun W h => by
    have := size_any W _ lX h.its (by rw [lX_sum]; omega)
    rw [lX_sum] at this
    exact this
  have HS := Lib.hid (fun W u v (h1 : ItsIn W u lX) (h2 : ItsIn W v lX) => same_its W u v lX h1 h2)
  generalize layI lX = z at *
  go_enter Try.func7, Try.ntmps7
  go_wp2_with (first
    | (go_at_call 11; (with_reducible refine (HF.out _ HO.out).mono ?_); rintro e w1 ⟨rfl, hb⟩; have HB1 := Lib.hid (thenBelow HB0.out hb); have HO1 := Lib.hid (HO.out.below hb); clear hb)
    | (go_at_call 16; (with_reducible refine (HL.out _ HO1.out).mono ?_); rintro e w2 ⟨rfl, hb⟩; have HB2 := Lib.hid (thenBelow HB1.out hb); have HO2 := Lib.hid (HO1.out.below hb); clear hb)
    | (go_at_call 17; (with_reducible refine (HR.out _).mono ?_); rintro e w3 ⟨v3, rfl, h3, hb⟩; have HB3 := Lib.hid (thenBelow HB2.out hb); have HO3 := Lib.hid (HO2.out.below hb); have HI3 := Lib.hid h3.its; clear h3 hb)
    | (go_at_call 18; (with_reducible refine (HS.out _ _ _ HO3.out.its HI3.out).mono ?_); rintro e w4 ⟨rfl, hb⟩; have HB4 := Lib.hid (thenBelow HB3.out hb); have HO4 := Lib.hid (HO3.out.below hb); clear hb)
    | (go_at_call 14; (with_reducible refine (HZ.out _ HO4.out).mono ?_); rintro e w5 ⟨rfl, hb⟩; have HB5 := Lib.hid (thenBelow HB4.out hb); clear hb))
  go_ret
  exact ⟨rfl, HB5.out⟩

end Go.Proofs.Ytloajjaaidmaiaa.P9
