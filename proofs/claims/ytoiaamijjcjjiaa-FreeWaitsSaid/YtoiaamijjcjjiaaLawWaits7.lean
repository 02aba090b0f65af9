/-
  P702: the walk of the statement FreeWaits.
-/
import Derived.Test.YtoiaamijjcjjiaaG14
namespace Go.Proofs.Ytoiaamijjcjjiaa.P7
open Go Go.RowKit Go.Lib Go.Proofs.Ytoiaamijjcjjiaa.PK

theorem ladder7 (c : Int → Prop) {d1 d2 d3 d4 d5 d6 d7 : Bool} : (d1 = true ∨ (d1 = false ∧ d2 = true) ∨ (d1 = false ∧ d2 = false ∧ d3 = true) ∨ (d1 = false ∧ d2 = false ∧ d3 = false ∧ d4 = true) ∨ (d1 = false ∧ d2 = false ∧ d3 = false ∧ d4 = false ∧ d5 = true) ∨ (d1 = false ∧ d2 = false ∧ d3 = false ∧ d4 = false ∧ d5 = false ∧ d6 = true) ∨ (d1 = false ∧ d2 = false ∧ d3 = false ∧ d4 = false ∧ d5 = false ∧ d6 = false ∧ d7 = true)) ∨ (d1 = false ∧ d2 = false ∧ d3 = false ∧ d4 = false ∧ d5 = false ∧ d6 = false ∧ d7 = false) := by
  cases d1 <;> cases d2 <;> cases d3 <;> cases d4 <;> cases d5 <;> cases d6 <;> cases d7 <;> simp
set_option maxRecDepth 100000 in
set_option maxHeartbeats 4000000 in
theorem waits_walk (w : World) (p : Int) (v : Value) (ids : List Int) (hl : IL w v ids) (tx n : Int) :
    Calls Try.prog 5 #[.int .i64 p, v, .int .i64 tx, .int .i64 n] w fun e w' => e = .returned (.bool true) ∧ Below w.heap.size w w' := by
  have HA := Lib.hid (fun w => alive_any w)
  have HIn := Lib.hid hl
  obtain ⟨a, c, rfl, -, hsz, -⟩ := id hl
  clear hl
  have hx := ladder7 (fun _ => True) (d1 := decide ((100 : Int) < (ids.length : Int))) (d2 := decide (p < 2)) (d3 := decide (1000 < p)) (d4 := decide (tx < 0)) (d5 := decide (1099511627776 < tx)) (d6 := decide (n < 1)) (d7 := decide (20 < n))
  rcases hx with hbad | ⟨e1, e2, e3, e4, e5, e6, e7⟩
  · clear HIn
    rcases hbad with e1 | ⟨e1, e2⟩ | ⟨e1, e2, e3⟩ | ⟨e1, e2, e3, e4⟩ | ⟨e1, e2, e3, e4, e5⟩ | ⟨e1, e2, e3, e4, e5, e6⟩ | ⟨e1, e2, e3, e4, e5, e6, e7⟩
    all_goals
      go_enter Try.func5, Try.ntmps5
      go_wp2_with (go_at_call 7; (with_reducible refine (HA.out _).mono ?_); rintro e w1 ⟨rfl, hb⟩; have HBe := Lib.hid hb; clear hb)
      go_ret
      exact ⟨rfl, HBe.out⟩
  · have q1 := of_decide_eq_false e1
    have q2 := of_decide_eq_false e2
    have q3 := of_decide_eq_false e3
    have q4 := of_decide_eq_false e4
    have q5 := of_decide_eq_false e5
    have q6 := of_decide_eq_false e6
    have q7 := of_decide_eq_false e7
    obtain ⟨m, rfl⟩ : ∃ m : Nat, n = m := ⟨n.toNat, by omega⟩
    have hm1 : 1 ≤ m := by omega
    have hm2 : m ≤ 20 := by omega
    have hp1 : 2 ≤ p := by omega
    have hp2 : p ≤ 1000 := by omega
    have hp3 : p ≤ 4000 := by omega
    have hids : ids.length ≤ 100 := by omega
    have ht0 : 0 ≤ tx := by omega
    have ht1 : tx ≤ 1099511627776 := by omega
    clear q1 q2 q3 q4 q5 q6 q7
    have HN := Lib.hid (wa_new (p := p) w hp1 hp3)
    go_enter Try.func5, Try.ntmps5
    go_wp2_with (first
      | (go_at_call 7; (with_reducible refine (HA.out _).mono ?_); rintro e w1 ⟨rfl, hb⟩; have HB := Lib.hid hb; have HN1 := Lib.hid (wa_new (p := p) w1 hp1 hp3); have HI1 := Lib.hid (HIn.out.below hb); clear hb)
      | (go_at_call 12; (with_reducible refine HN1.out.mono ?_); rintro e w2 ⟨r, rfl, h⟩; have HQ := Lib.hid h; clear h)
      | (go_at_call 15; (with_reducible refine (wa_give HQ.out _ HI1.out hids).mono ?_); rintro e w3 ⟨rfl, h⟩; have HQ3 := Lib.hid h; clear h)
      | (go_at_call 21; (with_reducible refine (wa_pend HQ3.out hp1 hp3).mono ?_); rintro e w4 ⟨a4, c4, rfl, h⟩; have HQ4 := Lib.hid h; clear h)
      | (go_at_call 19; (with_reducible refine (wa_copy HQ4.out).mono ?_); rintro e w5 ⟨r2, rfl, h⟩; have HQ5 := Lib.hid h; clear h)
      | (go_at_call 13; (with_reducible refine (wa_take HQ5.out hm1 hm2 hp2).mono ?_); rintro e w6 ⟨rfl, h⟩; have HQ6 := Lib.hid h; clear h)
      | (go_at_call 20; (with_reducible refine (wa_free0 HQ6.out).mono ?_); rintro e w7 ⟨a7, c7, rfl, h⟩; have HQ7 := Lib.hid h; clear h))
    go_loop [15] (fun vi => ∃ k : Nat, k ≤ m ∧ vi = .int .i64 k) (fun vi => m - (RowKit.intOf vi).toNat)
    case atStart => exact ⟨0, Nat.zero_le _, rfl⟩
    case round =>
      obtain ⟨k, hk, rfl⟩ := hrel
      by_cases hlt : k < m
      · have kk : (k : Int) < (m : Int) := by omega
        have HIk := Lib.hid (wa_in HQ7.out hp1 hp3 k)
        go_wp2_with (go_at_call 29; (with_reducible refine HIk.out.mono ?_); rintro e w8 ⟨rfl, rfl⟩)
        go_round
        case rel => exact ⟨k + 1, by omega, by go_num⟩
        case measure => simp [RowKit.intOf]; omega
      · obtain rfl : k = m := by omega
        clear hlt
        go_wp2_with (first
          | (go_at_call 17; (with_reducible refine (wa_rel HQ7.out).mono ?_); rintro e w8 ⟨rfl, h⟩; have HQ8 := Lib.hid h; clear h)
          | (go_at_call 20; (with_reducible refine (wa_free HQ8.out hp1 hp3).mono ?_); rintro e w9 ⟨a9, c9, rfl, h⟩; have HQ9 := Lib.hid h; clear h)
          | (go_at_call 21; (with_reducible refine (wa_pend0 HQ9.out).mono ?_); rintro e w10 ⟨a10, c10, rfl, h⟩; have HQ10 := Lib.hid h; clear h)
          | (go_at_call 21; (with_reducible refine (wa_pend2 HQ10.out hp1 hp3).mono ?_); rintro e w11 ⟨a11, c11, rfl, h⟩; have HQ11 := Lib.hid h; clear h)
          | (go_at_call 27; (with_reducible refine (wa_pages HQ11.out).mono ?_); rintro e w12 ⟨rfl, rfl⟩))
        go_ret
        exact ⟨rfl, thenBelow HB.out HQ11.out.one.below⟩

end Go.Proofs.Ytoiaamijjcjjiaa.P7
