/-
  P701: the walk of the statement FreeRuns.
-/
import Derived.Test.YtoiaamijjcjjiaaG16
namespace Go.Proofs.Ytoiaamijjcjjiaa.P7
open Go Go.RowKit Go.Lib Go.Proofs.Ytoiaamijjcjjiaa.PK

theorem ladder6 {d1 d2 d3 d4 d5 d6 : Bool} : (d1 = true ∨ (d1 = false ∧ d2 = true) ∨ (d1 = false ∧ d2 = false ∧ d3 = true) ∨ (d1 = false ∧ d2 = false ∧ d3 = false ∧ d4 = true) ∨ (d1 = false ∧ d2 = false ∧ d3 = false ∧ d4 = false ∧ d5 = true) ∨ (d1 = false ∧ d2 = false ∧ d3 = false ∧ d4 = false ∧ d5 = false ∧ d6 = false)) ∨ (d1 = false ∧ d2 = false ∧ d3 = false ∧ d4 = false ∧ d5 = false ∧ d6 = true) := by
  cases d1 <;> cases d2 <;> cases d3 <;> cases d4 <;> cases d5 <;> cases d6 <;> simp
set_option maxRecDepth 100000 in
set_option maxHeartbeats 4000000 in
theorem runs_walk (w : World) (p n tx : Int) (v : Value) (L : List Int) (hl : IL w v L) :
    Calls Try.prog 4 #[.int .i64 p, .int .i64 n, .int .i64 tx, v] w fun e w' => e = .returned (.bool true) ∧ Below w.heap.size w w' := by
  have HA := Lib.hid (fun w => alive_any w)
  have HIn := Lib.hid hl
  obtain ⟨d6, hd6⟩ : ∃ d : Bool, d = true ↔ Rises p L := by
    by_cases q : Rises p L
    · exact ⟨true, fun _ => q, fun _ => rfl⟩
    · exact ⟨false, fun h => (by cases h), fun h => absurd h q⟩
  have HRi := Lib.hid (rises_any w p v L hl d6 hd6)
  obtain ⟨a, c, rfl, -, hsz, -⟩ := id hl
  clear hl
  have hx := ladder6 (d1 := decide ((200 : Int) < (L.length : Int))) (d2 := decide (n < 1)) (d3 := decide (20 < n)) (d4 := decide (tx < 0)) (d5 := decide (1099511627776 < tx)) (d6 := d6)
  rcases hx with hbad | ⟨e1, e2, e3, e4, e5, e6⟩
  · clear HIn hd6
    rcases hbad with e1 | ⟨e1, e2⟩ | ⟨e1, e2, e3⟩ | ⟨e1, e2, e3, e4⟩ | ⟨e1, e2, e3, e4, e5⟩ | ⟨e1, e2, e3, e4, e5, e6⟩
    all_goals
      try subst e6
      have HB0 := Lib.hid (Below.refl w.heap.size w)
      go_enter Try.func4, Try.ntmps4
      go_wp2_with (first
        | (go_at_call 11; (with_reducible refine HRi.out.mono ?_); rintro e w1 ⟨rfl, hb⟩; have HB0 := Lib.hid hb; clear hb)
        | (go_at_call 7; (with_reducible refine (HA.out _).mono ?_); rintro e w2 ⟨rfl, hb⟩; have HBe := Lib.hid (thenBelow HB0.out hb); clear hb))
      go_ret
      exact ⟨rfl, HBe.out⟩
  · have hr := hd6.1 e6
    subst e6
    have q2 := of_decide_eq_false e2
    have q3 := of_decide_eq_false e3
    have q4 := of_decide_eq_false e4
    have q5 := of_decide_eq_false e5
    obtain ⟨m, rfl⟩ : ∃ m : Nat, n = m := ⟨n.toNat, by omega⟩
    have hm1 : 1 ≤ m := by omega
    have hm2 : m ≤ 20 := by omega
    have ht0 : 0 ≤ tx := by omega
    have ht1 : tx ≤ 1099511627776 := by omega
    have hp1 := hr.1
    have hp2 := hr.2.1
    have HRs := Lib.hid hr
    have hcase := rf_of hr hm1 hm2
    clear q2 q3 q4 q5 hr hd6
    rcases hcase with ⟨F1, b, e0, hRF⟩ | ⟨hfull, e0⟩
    · have HE := Lib.hid e0
      have HRF := Lib.hid hRF
      have hbge := hRF.ge
      clear e0 hRF
      go_enter Try.func4, Try.ntmps4
      go_wp2_with (first
        | (go_at_call 11; (with_reducible refine HRi.out.mono ?_); rintro e w1 ⟨rfl, hb⟩; have HB0 := Lib.hid hb; clear hb)
        | (go_at_call 7; (with_reducible refine (HA.out _).mono ?_); rintro e w2 ⟨rfl, hb⟩; have HB2 := Lib.hid (thenBelow HB0.out hb); have HI2 := Lib.hid (HIn.out.below HB2.out); clear hb)
        | (go_at_call 9; (with_reducible refine (ra_load w2 _ HI2.out HRs.out).mono ?_); rintro e w3 ⟨r, rfl, h⟩; have HQ3 := Lib.hid h; clear h)
        | (go_at_call 13; (with_reducible refine (ra_take HQ3.out HE.out).mono ?_); rintro e w4 ⟨rfl, h⟩; have HQ4 := Lib.hid (ra_row h); clear h))
      obtain ⟨i0, hi0, hz0, hz1, hz2⟩ := info_parts infoI7
      go_loopw [13, 14] (fun vl vi wr => ∃ k : Nat, k ≤ m ∧ vi = .int .i64 k ∧ Hid (QF w2 [iRow vl (seqA b k)] r F1 wr)) (fun _ vi _ => m - (RowKit.intOf vi).toNat)
      case atStart => exact ⟨0, Nat.zero_le _, rfl, HQ4⟩
      case round =>
        clear HQ4
        obtain ⟨k, hk, rfl, HQ⟩ := hrel
        obtain ⟨la, lc, hvl⟩ := iRow_slice (HQ.out.row (x := iRow u13 (seqA b k)) (by simp))
        rw [seqA_len] at hvl
        subst hvl
        by_cases hlt : k < m
        · have HAl := Lib.hid (ra_all HQ.out HRF.out k hlt)
          have kk : (k : Int) < (m : Int) := by omega
          have kk0 : (0 : Int) ≤ (k : Int) := by omega
          have hF4 := HRF.out.fine.most
          have hlt2 := HRF.out.lt k hlt
          have d1 : decide (F1.pages ≤ b + (k : Int)) = false := decide_eq_false (by omega)
          have HS := Lib.hid (seqA_next b k)
          have HSl := Lib.hid (seqA_len b k)
          have HB1 := Lib.hid (fun W (hW : QF w2 [iRow (.slice la k lc) (seqA b k)] r F1 W) (o : Obj) => show (W.alloc o).ownsRow w2.heap.size 3 1 (.slice la k lc) k ((seqA b k).map (Value.int .i64)) from by
            have h9 := iRow_owns.1 (hW.row (x := iRow (.slice la k lc) (seqA b k)) (by simp))
            rw [seqA_len] at h9
            exact h9.alloc o)
          have HGr := Lib.hid (fun W (hW : QF w2 [iRow (.slice la k lc) (seqA b k)] r F1 W) => hW.below.size)
          by_cases hbp : b < p
          · have d2 : decide (b < p) = true := decide_eq_true hbp
            go_wp2_with (first
              | (go_at_call 22; (with_reducible refine HAl.out.mono ?_); rintro e w5 ⟨u, rfl, h1, h2⟩; have HQ5 := Lib.hid h1; have HIn5 := Lib.hid h2; have HIn6 := Lib.hid (ra_in _ HI2.out h1 HRF.out hbp k hlt); have HPg := Lib.hid h1.pages_; clear h1 h2)
              | (go_at_call 29; (with_reducible refine HIn5.out.mono ?_); rintro e w6 ⟨rfl, rfl⟩)
              | (go_at_call 27; (with_reducible refine HPg.out.mono ?_); rintro e w7 ⟨rfl, rfl⟩)
              | (go_at_call 29; (with_reducible refine HIn6.out.mono ?_); rintro e w8 ⟨rfl, rfl⟩)
              | (at_builtin; refine wpList_append_own_at _ rfl _ _ 22 rfl w2.heap.size 3 i0 (.int .i64 0) 1 8 Try.underlying22 hi0 hz0 hz1 hz2 rfl (by decide) _ k ((seqA b k).map (Value.int .i64)) rfl (HB1.out _ HQ5.out _) ⟨w5.heap.size, 0, none⟩ 1 1 [.int .i64 (b + (k : Int))] rfl rfl (cells_new _ [.int .i64 (b + (k : Int))] _) ?c2 ?c3 ?c4 ?c5 ?_))
            case c2 => first | rfl | (intro u hu; simp at hu; subst hu; rfl)
            case c3 => unfold maxLen; omega
            case c4 => omega
            case c5 => have := HGr.out _ HQ5.out; first | omega | (simp; omega)
            intro v' w9 hown' hgrow _ hat
            have HQ9 := Lib.hid (show QF w2 [iRow v' (seqA b (k + 1))] r F1 w9 from by
              rw [HS.out]
              exact QF.grow (x := b + (k : Int)) HQ5.out (below_new _ _) (by rw [seqA_len]; exact hown') hgrow (by simpa using hat))
            clear hown' hgrow hat
            go_wp2
            go_roundw
            case rel => exact ⟨k + 1, by omega, by go_num, HQ9⟩
            case measure => simp [RowKit.intOf]; omega
          · have d2 : decide (b < p) = false := decide_eq_false hbp
            go_wp2_with (first
              | (go_at_call 22; (with_reducible refine HAl.out.mono ?_); rintro e w5 ⟨u, rfl, h1, h2⟩; have HQ5 := Lib.hid h1; have HIn5 := Lib.hid h2; have HPg := Lib.hid h1.pages_; clear h1 h2)
              | (go_at_call 29; (with_reducible refine HIn5.out.mono ?_); rintro e w6 ⟨rfl, rfl⟩)
              | (go_at_call 27; (with_reducible refine HPg.out.mono ?_); rintro e w7 ⟨rfl, rfl⟩)
              | (at_builtin; refine wpList_append_own_at _ rfl _ _ 22 rfl w2.heap.size 3 i0 (.int .i64 0) 1 8 Try.underlying22 hi0 hz0 hz1 hz2 rfl (by decide) _ k ((seqA b k).map (Value.int .i64)) rfl (HB1.out _ HQ5.out _) ⟨w5.heap.size, 0, none⟩ 1 1 [.int .i64 (b + (k : Int))] rfl rfl (cells_new _ [.int .i64 (b + (k : Int))] _) ?c2 ?c3 ?c4 ?c5 ?_))
            case c2 => first | rfl | (intro u hu; simp at hu; subst hu; rfl)
            case c3 => unfold maxLen; omega
            case c4 => omega
            case c5 => have := HGr.out _ HQ5.out; first | omega | (simp; omega)
            intro v' w9 hown' hgrow _ hat
            have HQ9 := Lib.hid (show QF w2 [iRow v' (seqA b (k + 1))] r F1 w9 from by
              rw [HS.out]
              exact QF.grow (x := b + (k : Int)) HQ5.out (below_new _ _) (by rw [seqA_len]; exact hown') hgrow (by simpa using hat))
            clear hown' hgrow hat
            go_wp2
            go_roundw
            case rel => exact ⟨k + 1, by omega, by go_num, HQ9⟩
            case measure => simp [RowKit.intOf]; omega
        · obtain rfl : k = m := by omega
          clear hlt
          go_wp2_with (first
            | (go_at_call 15; (with_reducible refine (ra_give HQ.out HRF.out hm2).mono ?_); rintro e w5 ⟨rfl, h⟩; have HQ5 := Lib.hid h; clear h)
            | (go_at_call 21; (with_reducible refine (ra_pend HQ5.out HRF.out).mono ?_); rintro e w6 ⟨a6, c6, rfl, h⟩; have HQ6 := Lib.hid h; clear h)
            | (go_at_call 17; (with_reducible refine (ra_rel0 HQ6.out HRF.out).mono ?_); rintro e w7 ⟨rfl, h⟩; have HQ7 := Lib.hid h; clear h)
            | (go_at_call 17; (with_reducible refine (ra_rel HQ7.out HRF.out).mono ?_); rintro e w8 ⟨rfl, h⟩; obtain ⟨b2, hb2, h9⟩ := ra_again h HRF.out hm1 hm2; have HTk := Lib.hid h9; have d9 : decide (b2 ≤ b) = true := decide_eq_true hb2; clear h h9)
            | (go_at_call 13; (with_reducible refine HTk.out.mono ?_); rintro e w9 ⟨rfl, h⟩; have HBe := Lib.hid h; clear h))
          go_ret
          exact ⟨rfl, thenBelow HB2.out HBe.out⟩
    · have HE := Lib.hid e0
      clear e0
      go_enter Try.func4, Try.ntmps4
      go_wp2_with (first
        | (go_at_call 11; (with_reducible refine HRi.out.mono ?_); rintro e w1 ⟨rfl, hb⟩; have HB0 := Lib.hid hb; clear hb)
        | (go_at_call 7; (with_reducible refine (HA.out _).mono ?_); rintro e w2 ⟨rfl, hb⟩; have HB2 := Lib.hid (thenBelow HB0.out hb); have HI2 := Lib.hid (HIn.out.below HB2.out); clear hb)
        | (go_at_call 9; (with_reducible refine (ra_load w2 _ HI2.out HRs.out).mono ?_); rintro e w3 ⟨r, rfl, h⟩; have HQ3 := Lib.hid h; clear h)
        | (go_at_call 13; (with_reducible refine (ra_full HQ3.out HE.out).mono ?_); rintro e w4 ⟨rfl, h⟩; have HQ4 := Lib.hid h; clear h))
      go_ret
      exact ⟨rfl, thenBelow HB2.out HQ4.out.below⟩

end Go.Proofs.Ytoiaamijjcjjiaa.P7
