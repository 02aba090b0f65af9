/-
  P302: as many are taken as there is room for: the walk of the statement OnceTakes.
-/
import Derived.Test.YtalgbimclagdjaaAlive3
namespace Go.Proofs.Ytalgbimclagdjaa.P3
open Go Go.RowKit Go.Lib Go.Maps Go.ChangeMaps Go.MapKept

set_option maxRecDepth 100000 in
theorem takes_skip (w : World) (most times more : Int) (h : ¬ (0 ≤ most ∧ most ≤ 100 ∧ 0 ≤ times ∧ times ≤ 200 ∧ 0 ≤ more ∧ more ≤ 100)) :
    Calls Try.prog 8 #[.int .i64 most, .int .i64 times, .int .i64 more] w fun r w' => r = .returned (.bool true) ∧ Below w.heap.size w w' := by
  have K := fun w' => Lib.hid (alive_any w')
  by_cases c1 : most < 0
  · have k1 : decide (most < 0) = true := decide_eq_true c1
    clear h
    go_enter Try.func8, Try.ntmps8
    go_wp2_with (go_at_call 9; refine (K _).out.mono ?_; rintro e w1 ⟨rfl, hb⟩)
    go_ret
    exact ⟨rfl, hb⟩
  have k1 : decide (most < 0) = false := decide_eq_false c1
  by_cases c2 : 100 < most
  · have k2 : decide ((100 : Int) < most) = true := decide_eq_true c2
    clear h
    go_enter Try.func8, Try.ntmps8
    go_wp2_with (go_at_call 9; refine (K _).out.mono ?_; rintro e w1 ⟨rfl, hb⟩)
    go_ret
    exact ⟨rfl, hb⟩
  have k2 : decide ((100 : Int) < most) = false := decide_eq_false c2
  by_cases c3 : times < 0
  · have k3 : decide (times < 0) = true := decide_eq_true c3
    clear h
    go_enter Try.func8, Try.ntmps8
    go_wp2_with (go_at_call 9; refine (K _).out.mono ?_; rintro e w1 ⟨rfl, hb⟩)
    go_ret
    exact ⟨rfl, hb⟩
  have k3 : decide (times < 0) = false := decide_eq_false c3
  by_cases c4 : 200 < times
  · have k4 : decide ((200 : Int) < times) = true := decide_eq_true c4
    clear h
    go_enter Try.func8, Try.ntmps8
    go_wp2_with (go_at_call 9; refine (K _).out.mono ?_; rintro e w1 ⟨rfl, hb⟩)
    go_ret
    exact ⟨rfl, hb⟩
  have k4 : decide ((200 : Int) < times) = false := decide_eq_false c4
  by_cases c5 : more < 0
  · have k5 : decide (more < 0) = true := decide_eq_true c5
    clear h
    go_enter Try.func8, Try.ntmps8
    go_wp2_with (go_at_call 9; refine (K _).out.mono ?_; rintro e w1 ⟨rfl, hb⟩)
    go_ret
    exact ⟨rfl, hb⟩
  have k5 : decide (more < 0) = false := decide_eq_false c5
  have k6 : decide ((100 : Int) < more) = true := decide_eq_true (by omega)
  clear h
  go_enter Try.func8, Try.ntmps8
  go_wp2_with (go_at_call 9; refine (K _).out.mono ?_; rintro e w1 ⟨rfl, hb⟩)
  go_ret
  exact ⟨rfl, hb⟩

set_option maxRecDepth 100000 in
theorem takes_in (w : World) (M T R : Nat) (hM : M ≤ 100) (hT : T ≤ 200) (hR : R ≤ 100) :
    Calls Try.prog 8 #[.int .i64 M, .int .i64 T, .int .i64 R] w fun r w' => r = .returned (.bool true) ∧ Below w.heap.size w w' := by
  have K := fun w' => Lib.hid (alive_any w')
  have k1 : decide ((M : Int) < 0) = false := decide_eq_false (by omega)
  have k2 : decide ((100 : Int) < (M : Int)) = false := decide_eq_false (by omega)
  have k3 : decide ((T : Int) < 0) = false := decide_eq_false (by omega)
  have k4 : decide ((200 : Int) < (T : Int)) = false := decide_eq_false (by omega)
  have k5 : decide ((R : Int) < 0) = false := decide_eq_false (by omega)
  have k6 : decide ((100 : Int) < (R : Int)) = false := decide_eq_false (by omega)
  go_enter Try.func8, Try.ntmps8
  go_wp2_with (go_at_call 9; refine (K _).out.mono ?_; rintro e w1 ⟨rfl, hb1⟩)
  have A := countAdd (w1.alloc (.cells #[.int .i64 0] 54)) w1.heap.size 0 R (heap_alloc_new w1 _)
  rw [show wrap64 (0 + (R : Int)) = (R : Int) by rw [Int.zero_add]; exact IntWalk.wrap64_in _ (by omega)] at A
  have HA := Lib.hid A
  clear A
  go_wp2_with (go_at_call 17; (with_reducible refine HA.out.mono ?_); rintro e w2 ⟨rfl, hc2, ho2⟩)
  have hB2 : Below w.heap.size w w2 := (Fr.only (S := (· = w1.heap.size)) ho2 rfl).new (grow hb1 _) (fun i hi => by have := hb1.size; omega)
  obtain ⟨b, hb⟩ : ∃ b, b = w1.heap.size := ⟨_, rfl⟩
  rw [← hb] at hc2 ⊢
  have hbw : w.heap.size ≤ b := by rw [hb]; exact hb1.size
  clear hb HA ho2 hb1
  have b0 : (0 : Int) ≤ (R : Int) := by omega
  have b1 : (M : Int) ≤ 100 := by omega
  have b2 : (R : Int) ≤ 100 := by omega
  have b3 : (T : Int) ≤ 200 := by omega
  go_loopw [8, 9] (fun v i wr => ∃ k q : Nat, k ≤ T ∧ i = .int .i64 (k : Nat) ∧ v = .int .i64 (q : Nat) ∧ Hid (q = min (M - R) k) ∧ Hid (CountAt wr b ((R : Int) + q)) ∧ Below w.heap.size w wr) (fun _ i _ => T - (RowKit.intOf i).toNat)
  case atStart => exact ⟨0, 0, Nat.zero_le _, rfl, rfl, (by simp : (0 : Nat) = min (M - R) 0), (by simpa using hc2 : CountAt w2 b ((R : Int) + (0 : Nat))), hB2⟩
  case round =>
    clear hc2 hB2
    obtain ⟨k, q, hk, rfl, rfl, hq, hc, hB⟩ := hrel
    have b4 : (q : Int) ≤ 200 := by have := hq.out; omega
    have b5 : (k : Int) ≤ 200 := by omega
    by_cases hlt : k < T
    · by_cases hroom : (R : Int) + q < M
      · have A := take_yes wr b _ M hc.out hroom
        rw [IntWalk.wrap64_in _ (by omega)] at A
        have HA := Lib.hid A
        have HR := Lib.hid hroom
        clear A hroom
        go_wp2_with (go_at_call 19; (with_reducible refine HA.out.mono ?_); rintro e w3 ⟨rfl, hc3, ho3⟩)
        go_roundw
        case rel => exact ⟨k + 1, q + 1, by omega, by go_num, by go_num, (by have := hq.out; have := HR.out; omega : q + 1 = min (M - R) (k + 1)), (by rw [show (R : Int) + ((q + 1 : Nat) : Int) = (R : Int) + q + 1 by omega]; exact hc3 : CountAt w3 b ((R : Int) + ((q + 1 : Nat) : Int))), (Fr.only (S := (· = b)) ho3 rfl).new hB (fun i hi => by omega)⟩
        case measure => simp [RowKit.intOf]; omega
      · have HA := Lib.hid (take_no wr b _ M hc.out hroom)
        have HR := Lib.hid hroom
        clear hroom
        go_wp2_with (go_at_call 19; (with_reducible refine HA.out.mono ?_); rintro e w3 ⟨rfl, hc3, ho3⟩)
        go_roundw
        case rel => exact ⟨k + 1, q, by omega, by go_num, rfl, (by have := hq.out; have := HR.out; omega : q = min (M - R) (k + 1)), hc3, (Fr.only (S := (· = b)) ho3 rfl).new hB (fun i hi => by omega)⟩
        case measure => simp [RowKit.intOf]; omega
    · obtain rfl : k = T := by omega
      have HN := Lib.hid (countNow wr b _ hc.out)
      go_wp2_with (go_at_call 23; (with_reducible refine HN.out.mono ?_); rintro e w3 ⟨rfl, rfl⟩)
      all_goals (first
        | (exfalso; have := hq.out; omega)
        | (go_ret; exact ⟨rfl, hB⟩))

theorem takes_walk (w : World) (most times more : Int) :
    Calls Try.prog 8 #[.int .i64 most, .int .i64 times, .int .i64 more] w fun r w' => r = .returned (.bool true) ∧ Below w.heap.size w w' := by
  by_cases h : 0 ≤ most ∧ most ≤ 100 ∧ 0 ≤ times ∧ times ≤ 200 ∧ 0 ≤ more ∧ more ≤ 100
  · obtain ⟨M, rfl⟩ := Int.eq_ofNat_of_zero_le h.1
    obtain ⟨T, rfl⟩ := Int.eq_ofNat_of_zero_le h.2.2.1
    obtain ⟨R, rfl⟩ := Int.eq_ofNat_of_zero_le h.2.2.2.2.1
    exact takes_in w M T R (by omega) (by omega) (by omega)
  · exact takes_skip w most times more h

end Go.Proofs.Ytalgbimclagdjaa.P3
