/-
  The law's first call. (Twig.)
-/
import Derived.Test.YthihjkdankbnjaaX3
import Derived.Test.YthihjkdankbnjaaX5
import Derived.Test.YthihjkdankbnjaaT6
namespace Go.Proofs.Ythihjkdankbnjaa.P10
open Go Go.RowKit Go.Lib Go.Proofs.Ythihjkdankbnjaa.PK

def lX : List It := [⟨⟨#[]⟩, 5⟩, ⟨⟨#[109]⟩, 7⟩]
def kX : ByteArray := ⟨#[107]⟩
def mX : ByteArray := ⟨#[109]⟩
theorem lX_o : RightO lX := by
  rw [rightI_pair]
  refine ⟨fun x hx => ?_, ?_⟩
  · rcases List.mem_cons.1 hx with rfl | hx
    · decide
    · obtain rfl := List.mem_singleton.1 hx
      decide
  · refine List.pairwise_cons.2 ⟨fun y hy => ?_, List.pairwise_singleton _ _⟩
    obtain rfl := List.mem_singleton.1 hy
    rw [kb_eq]
    decide
theorem lX_right : RightI lX := ⟨lX_o, by decide⟩
theorem lX_k : findK lX kX = 0 := findK_one (i := 0) (x := ⟨⟨#[]⟩, 5⟩) lX_o rfl (by rw [kb_eq]; decide) (fun y hy => by
  obtain rfl : (⟨⟨#[109]⟩, 7⟩ : It) = y := Option.some.inj hy
  rw [kb_eq]
  decide)
theorem lX_m : findK lX mX = 1 := findK_one (i := 1) (x := ⟨⟨#[109]⟩, 7⟩) lX_o rfl (by rw [kb_eq]; decide) (fun y hy => by cases hy)
theorem lX_sum : sumI lX = 9 := by decide
theorem lX_lay : layR lX = (layI lX, 0) := by
  unfold layR
  rw [if_pos lX_right, if_pos (by rw [lX_sum]; omega)]
theorem lX_own (w : World) : OwnI w.heap.size (w.alloc (.cells #[.string ⟨#[]⟩, .int .i64 5, .string ⟨#[109]⟩, .int .i64 7] 26)) (.slice (some ⟨w.heap.size, 0, none⟩) 2 2) lX :=
  ⟨⟨rfl, .inr ⟨w.heap.size, 2, _, rfl, Nat.le_refl _, new_at w _ _, Nat.le_refl _, by unfold maxLen; omega, rfl, rfl⟩⟩, by show 2 ≤ 1000000; omega⟩

set_option maxRecDepth 100000 in
theorem alive_any (w : World) : Calls Try.prog 6 #[] w fun r w' => r = .returned (.bool true) ∧ Below w.heap.size w w' := by
  have HO := Lib.hid (lX_own w)
  have HB0 : Hid (Below w.heap.size w (w.alloc (.cells #[.string ⟨#[]⟩, .int .i64 5, .string ⟨#[109]⟩, .int .i64 7] 26))) := below_new _ _
  have HF : Hid (∀ W, OwnI w.heap.size W (.slice (some ⟨w.heap.size, 0, none⟩) 2 2) lX → Calls Try.prog 7 #[.slice (some ⟨w.heap.size, 0, none⟩) 2 2, .string ⟨#[107]⟩] W fun e w' => e = .returned (.int .i64 0) ∧ Below W.heap.size W w') := fun W h => by
    have := find_any W _ lX kX h.its (by decide) lX_o
    rw [lX_k] at this
    exact this
  have HF2 : Hid (∀ W, OwnI w.heap.size W (.slice (some ⟨w.heap.size, 0, none⟩) 2 2) lX → Calls Try.prog 7 #[.slice (some ⟨w.heap.size, 0, none⟩) 2 2, .string ⟨#[109]⟩] W fun e w' => e = .returned (.int .i64 1) ∧ Below W.heap.size W w') := fun W h => by
    have := find_any W _ lX mX h.its (by decide) lX_o
    rw [lX_m] at this
    exact this
  have HL : Hid (∀ W, OwnI w.heap.size W (.slice (some ⟨w.heap.size, 0, none⟩) 2 2) lX → Calls Try.prog 10 #[.slice (some ⟨w.heap.size, 0, none⟩) 2 2] W fun e w' => e = .returned (.tuple #[.string (layI lX), .int .i64 0]) ∧ Below W.heap.size W w') := fun W h => by
    have := lay_any W _ lX h.its (by rw [lX_sum]; omega)
    rw [lX_lay] at this
    exact this
  have HR : Hid (∀ W, Calls Try.prog 11 #[.string (layI lX)] W fun e w' => ∃ v, e = .returned (.tuple #[v, .int .i64 0]) ∧ OwnI W.heap.size w' v lX ∧ Below W.heap.size W w') := fun W => by
    have := read_any W (layI lX) (by rw [layI_size, lX_sum]; omega)
    rw [read_back lX_right (by rw [lX_sum]; omega)] at this
    exact this
  have HZ : Hid (∀ W, OwnI w.heap.size W (.slice (some ⟨w.heap.size, 0, none⟩) 2 2) lX → Calls Try.prog 13 #[.slice (some ⟨w.heap.size, 0, none⟩) 2 2] W fun e w' => e = .returned (.int .i64 10) ∧ Below W.heap.size W w') := fun W h => by
    have := size_any W _ lX h.its (by rw [lX_sum]; omega)
    rw [lX_sum] at this
    exact this
  have HS := Lib.hid (fun W u v (h1 : ItsIn W u lX) (h2 : ItsIn W v lX) => same_its W u v lX h1 h2)
  generalize layI lX = z at *
  go_enter Try.func6, Try.ntmps6
  go_wp2_with (first
    | (go_at_call 10; (with_reducible refine (HL.out _ HO.out).mono ?_); rintro e w2 ⟨rfl, hb⟩; have HB2 := Lib.hid (thenBelow HB0.out hb); have HO2 := Lib.hid (HO.out.below hb); clear hb)
    | (go_at_call 11; (with_reducible refine (HR.out _).mono ?_); rintro e w3 ⟨v3, rfl, h3, hb⟩; have HB3 := Lib.hid (thenBelow HB2.out hb); have HO3 := Lib.hid (HO2.out.below hb); have HI3 := Lib.hid h3.its; clear h3 hb)
    | (go_at_call 7; (with_reducible refine (HF.out _ HO3.out).mono ?_); rintro e w1 ⟨rfl, hb⟩; have HB4 := Lib.hid (thenBelow HB3.out hb); have HO4 := Lib.hid (HO3.out.below hb); have HI4 := Lib.hid (HI3.out.below hb); clear hb)
    | (go_at_call 7; (with_reducible refine (HF2.out _ HO4.out).mono ?_); rintro e w6 ⟨rfl, hb⟩; have HB5 := Lib.hid (thenBelow HB4.out hb); have HO5 := Lib.hid (HO4.out.below hb); have HI5 := Lib.hid (HI4.out.below hb); clear hb)
    | (go_at_call 12; (with_reducible refine (HS.out _ _ _ HO5.out.its HI5.out).mono ?_); rintro e w4 ⟨rfl, hb⟩; have HB6 := Lib.hid (thenBelow HB5.out hb); have HO6 := Lib.hid (HO5.out.below hb); clear hb)
    | (go_at_call 13; (with_reducible refine (HZ.out _ HO6.out).mono ?_); rintro e w5 ⟨rfl, hb⟩; have HB7 := Lib.hid (thenBelow HB6.out hb); clear hb))
  go_ret
  exact ⟨rfl, HB7.out⟩

end Go.Proofs.Ythihjkdankbnjaa.P10
