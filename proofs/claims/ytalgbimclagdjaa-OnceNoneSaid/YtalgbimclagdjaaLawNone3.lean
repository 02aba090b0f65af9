/-
  P304: of nil ones: the walk of the statement OnceNone.
-/
import Derived.Test.YtalgbimclagdjaaVars3
namespace Go.Proofs.Ytalgbimclagdjaa.P3
open Go Go.RowKit Go.Lib Go.Maps Go.ChangeMaps Go.MapKept

set_option maxRecDepth 100000 in
theorem none3_walk (w : World) (n id : Int) :
    Calls Try.prog 6 #[.int .i64 n, .int .i64 id] w fun r w' => r = .returned (.bool true) ∧ Below w.heap.size w w' := by
  have K := fun w' => Lib.hid (alive_any w')
  have hn0 : IntAt ((w.alloc (.cells #[.int .i64 n] 3)).alloc (.cells #[.int .i64 id] 3)) w.heap.size n := (IntAt.new w n).alloc _
  have hi0 : IntAt ((w.alloc (.cells #[.int .i64 n] 3)).alloc (.cells #[.int .i64 id] 3)) (w.heap.size + 1) id := by
    have := IntAt.new (w.alloc (.cells #[.int .i64 n] 3)) id
    simpa using this
  have HN0 := Lib.hid hn0
  have HI0 := Lib.hid hi0
  clear hn0 hi0
  go_enter Try.func6, Try.ntmps6
  go_wp2_with (go_at_call 9; refine (K _).out.mono ?_; rintro e w1 ⟨rfl, hb1⟩)
  have hB1 : Below w.heap.size w w1 := thenBelow (grow (below_new w _) _) hb1
  have hn1 := HN0.out.below hb1
  have hi1 := HI0.out.below hb1
  obtain ⟨bc, hbc⟩ : ∃ bc, bc = w1.heap.size := ⟨_, rfl⟩
  have hc2 := IntAt.new w1 0
  have hn2 := hn1.alloc (.cells #[.int .i64 0] 3)
  have hi2 := hi1.alloc (.cells #[.int .i64 0] 3)
  have hlt := hi1.lt
  have hB2 : Below w.heap.size w (w1.alloc (.cells #[.int .i64 0] 3)) := grow hB1 _
  rw [← hbc] at hc2 ⊢
  have n1 : bc ≠ w.heap.size := by omega
  have n2 : bc ≠ w.heap.size + 1 := by omega
  have hwb : w.heap.size ≤ bc := by omega
  have G1 := getI_nilcell (w1.alloc (.cells #[.int .i64 0] 3)) 25 en_none1 #[.pointer (some ⟨bc, 0, none⟩), .pointer (some ⟨w.heap.size, 0, none⟩)] n (fun w' => IntAt w' bc 1 ∧ IntAt w' w.heap.size n ∧ IntAt w' (w.heap.size + 1) id ∧ Below w.heap.size w w')
    (fun wa hba => (none1 wa bc w.heap.size 0 n (hc2.below hba) (hn2.below hba) n1).mono fun e w' ⟨he, hc, ho⟩ => ⟨he, by rw [show wrap64 (0 + 1) = 1 from by decide +kernel] at hc; exact hc, (hn2.below hba).only ho n1.symm, (hi2.below hba).only ho n2.symm, (Fr.only (S := (· = bc)) ho rfl).new (thenBelow hB2 hba) (fun i hi => by omega)⟩)
  have HG1 := Lib.hid G1
  clear HN0 HI0 hb1 hB1 hn1 hi1 hbc hc2 hn2 hi2 hlt hB2 G1
  go_wp2_with (go_at_call 13; (with_reducible refine HG1.out.mono ?_); rintro e w3 ⟨rfl, hc3, hn3, hi3, hB3⟩)
  have G2 := getI_nilcell w3 26 en_none2 #[.pointer (some ⟨bc, 0, none⟩), .pointer (some ⟨w.heap.size + 1, 0, none⟩)] id (fun w' => IntAt w' bc 2 ∧ IntAt w' w.heap.size n ∧ IntAt w' (w.heap.size + 1) id ∧ Below w.heap.size w w')
    (fun wa hba => (none2 wa bc (w.heap.size + 1) 1 id (hc3.below hba) (hi3.below hba) n2).mono fun e w' ⟨he, hc, ho⟩ => ⟨he, by rw [show wrap64 (1 + 1) = 2 from by decide +kernel] at hc; exact hc, (hn3.below hba).only ho n1.symm, (hi3.below hba).only ho n2.symm, (Fr.only (S := (· = bc)) ho rfl).new (thenBelow hB3 hba) (fun i hi => by omega)⟩)
  have HG2 := Lib.hid G2
  clear hc3 hn3 hi3 hB3 G2
  go_wp2_with (go_at_call 13; (with_reducible refine HG2.out.mono ?_); rintro e w4 ⟨rfl, hc4, hn4, hi4, hB4⟩)
  have HC4 := Lib.hid hc4
  have HN4 := Lib.hid hn4
  have HI4 := Lib.hid hi4
  have qc := hc4.cell
  have qn := hn4.cell
  have qi := hi4.cell
  clear hc4 hn4 hi4
  go_wp2_with (first
    | (go_at_call 22; (with_reducible refine (nil_least _).mono ?_); rintro e w5 ⟨rfl, rfl⟩)
    | (go_at_call 27; (with_reducible refine (madeI_nilcell _).mono ?_); rintro e w5 ⟨rfl, rfl⟩)
    | (go_at_call 17; (with_reducible refine (nil_add _ _).mono ?_); rintro e w5 ⟨rfl, rfl⟩)
    | (go_at_call 18; (with_reducible refine (nil_most _ _).mono ?_); rintro e w6 ⟨rfl, hb6⟩; have rn := (HN4.out.below hb6).cell; have ri := (HI4.out.below hb6).cell; have HN6 := Lib.hid (HN4.out.below hb6); have HI6 := Lib.hid (HI4.out.below hb6))
    | (go_at_call 19; (with_reducible refine (nil_take _ _).mono ?_); rintro e w7 ⟨rfl, hb7⟩; have sn := (HN6.out.below hb7).cell; have si := (HI6.out.below hb7).cell)
    | (go_at_call 23; (with_reducible refine (nil_now _).mono ?_); rintro e w8 ⟨rfl, rfl⟩)
    | (go_at_call 20; (with_reducible refine (nil_pin _ _).mono ?_); rintro e w8 ⟨rfl, rfl⟩)
    | (go_at_call 21; (with_reducible refine (nil_drop _ _).mono ?_); rintro e w8 ⟨rfl, rfl⟩)
    | (go_at_call 24; (with_reducible refine (nil_len _).mono ?_); rintro e w8 ⟨rfl, rfl⟩))
  go_ret
  exact ⟨rfl, thenBelow (thenBelow hB4 hb6) hb7⟩

end Go.Proofs.Ytalgbimclagdjaa.P3
