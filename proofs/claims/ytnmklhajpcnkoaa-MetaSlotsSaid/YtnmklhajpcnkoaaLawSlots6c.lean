/-
  MetaSlots, part c. (Written by gen_meta_slots.py.)
-/
import Derived.Test.YtnmklhajpcnkoaaLawSlots6a
import Derived.Deep.Cut
import Derived.Deep.RegionHeld3
namespace Go.Proofs.Ytnmklhajpcnkoaa.P6
open Go Go.RowKit Go.Lib Go.Proofs.Ytnmklhajpcnkoaa.P0 Go.Proofs.Ytnmklhajpcnkoaa.P2 Go.Proofs.Ytnmklhajpcnkoaa.P5

set_option maxRecDepth 100000 in
set_option maxHeartbeats 8000000 in
theorem slots_0_lt (w : World) (m n : Mt) (hm : m.ok) (hn : n.ok) (hm2 : m.tx % 2 = 0) (hn2 : n.tx % 2 = 1) (hg : m.tx < n.tx) :
    Calls Try.prog 5 #[m.v, n.v] w fun r w' => r = .returned (.bool true) ∧ Below w.heap.size w w' := by
  have K := fun w' => Lib.hid (alive_any6 w')
  have L1 := fun W => Lib.hid (mlay_ok W m hm)
  have L2 := fun W => Lib.hid (mlay_ok W n hn)
  have rm := m.ok_range hm
  have rn := n.ok_range hn
  have kx : bits .and .i64 m.tx 1 = 0 := by rw [and_one _ (by omega) (by omega)]; exact hm2
  have ky : bits .and .i64 n.tx 1 = 1 := by rw [and_one _ (by omega) (by omega)]; exact hn2
  have C1 := fun W => Lib.hid (choose_any W (m.sector) (⟨#[]⟩))
  have C2 := fun W => Lib.hid (choose_any W (⟨#[]⟩) (m.sector))
  have C3 := fun W => Lib.hid (choose_any W ⟨#[]⟩ ⟨#[]⟩)
  have st0 : standM m.sector 0 = m := by rw [stand_sector hm, if_pos hm2]
  have st1 : standM m.sector 1 = Mt.zero := by rw [stand_sector hm, if_neg (by omega)]
  obtain ⟨q1, q2⟩ := ch_x (b := ⟨#[]⟩) st0 (by omega) (by rw [stand_empty]; show ¬ m.tx < 0; omega)
  obtain ⟨q3, q4⟩ := ch_none (a := ⟨#[]⟩) (stand_empty 0) st1
  obtain ⟨q5, q6⟩ := ch_none (a := ⟨#[]⟩) (b := ⟨#[]⟩) (stand_empty 0) (stand_empty 1)
  rw [q1, q2] at C1
  rw [q3, q4] at C2
  rw [q5, q6] at C3
  have EM := fun W : World => meta_neq W m m
  rw [Mt.same_self] at EM
  have EZ := fun W : World => meta_neq W Mt.zero Mt.zero
  rw [Mt.same_self] at EZ
  have C4 := fun W => Lib.hid (choose_any W (m.sector) (n.sector))
  have sn : standM n.sector 1 = n := by rw [stand_sector hn, if_pos hn2]
  obtain ⟨q7, q8⟩ := ch_y sn (by omega) (by rw [st0]; omega)
  rw [q7, q8] at C4
  have E4 := fun W : World => meta_eql W n n
  rw [Mt.same_self] at E4
  have g1 : decide (n.tx < m.tx) = false := decide_eq_false (by omega)
  have g2 : decide (m.tx < n.tx) = true := decide_eq_true (by omega)
  clear q7 q8 sn hg
  clear q1 q2 q3 q4 q5 q6 st0 st1 rm rn hm hn hm2 hn2
  generalize m.sector = S at *
  generalize n.sector = T at *
  have HST := Lib.hid (bkd_args w m n)
  have DW := Lib.hid (show ∀ l W, Bkd w l W → Bkd w l W.drew from fun l W k => k.over ((Below.refl _ _).drew))
  have NW := Lib.hid (show ∀ l W, Bkd w l W → ∀ (x : Mt), Bkd w ((W.heap.size, x.cells, 23) :: l) (W.alloc (.cells x.cells 23)) from fun l W k x => k.new _ _)
  have NS := Lib.hid (show ∀ l W, Bkd w l W → Bkd w ((W.heap.size, #[.string S, .string ⟨#[]⟩], 9) :: l) (W.alloc (.cells #[.string S, .string ⟨#[]⟩] 9)) from fun l W k => k.new _ _)
  have CM := Lib.hid (show ∀ W, Bkd w [(w.heap.size + 1, n.cells, 23), (w.heap.size, m.cells, 23)] W → _ ∧ _ from fun W k => ⟨cells4 (k.bks.at_ 1 rfl), cells4 (k.bks.at_ 0 rfl)⟩)
  have CS := Lib.hid (show ∀ b s0 s1 W, Bkd w [(b, #[.string s0, .string s1], 9), (w.heap.size + 1, n.cells, 23), (w.heap.size, m.cells, 23)] W → _ ∧ _ ∧ _ ∧ _ from fun b s0 s1 W k => ⟨cells2 (k.bks.at_ 0 rfl), free2 (k.bks.at_ 0 rfl), cells4 (k.bks.at_ 2 rfl), cells4 (k.bks.at_ 1 rfl)⟩)
  have CX := Lib.hid (show ∀ b0 (x : Mt) b s0 s1 W, Bkd w [(b0, x.cells, 23), (b, #[.string s0, .string s1], 9), (w.heap.size + 1, n.cells, 23), (w.heap.size, m.cells, 23)] W → _ ∧ _ ∧ _ ∧ _ ∧ _ from fun b0 x b s0 s1 W k => ⟨cells4 (k.bks.at_ 0 rfl), cells2 (k.bks.at_ 1 rfl), free2 (k.bks.at_ 1 rfl), cells4 (k.bks.at_ 3 rfl), cells4 (k.bks.at_ 2 rfl)⟩)
  have CY := Lib.hid (show ∀ b1 (y : Mt) b0 (x : Mt) b s0 s1 W, Bkd w [(b1, y.cells, 23), (b0, x.cells, 23), (b, #[.string s0, .string s1], 9), (w.heap.size + 1, n.cells, 23), (w.heap.size, m.cells, 23)] W → _ ∧ _ ∧ _ ∧ _ ∧ _ ∧ _ from fun b1 y b0 x b s0 s1 W k => ⟨cells4 (k.bks.at_ 0 rfl), cells4 (k.bks.at_ 1 rfl), cells2 (k.bks.at_ 2 rfl), free2 (k.bks.at_ 2 rfl), cells4 (k.bks.at_ 4 rfl), cells4 (k.bks.at_ 3 rfl)⟩)
  have BW := Lib.hid (show ∀ l W, Bkd w l W → Below w.heap.size w W from fun l W k => k.bks.below)
  have SB := Lib.hid (show ∀ b1 (y : Mt) b0 (x : Mt) b W, Bkd w [(b1, y.cells, 23), (b0, x.cells, 23), (b, #[.string S, .string ⟨#[]⟩], 9), (w.heap.size + 1, n.cells, 23), (w.heap.size, m.cells, 23)] W → Bkd w [(b1, y.cells, 23), (b0, x.cells, 23), (b, #[.string S, .string T], 9), (w.heap.size + 1, n.cells, 23), (w.heap.size, m.cells, 23)] (W.setCell ⟨b, 1, none⟩ (.string T)) from fun b1 y b0 x b W k => k.set 2 rfl 1 (.string T))
  obtain ⟨x0, x1, x2, x3⟩ := m
  obtain ⟨y0, y1, y2, y3⟩ := n
  unfold Mt.v Mt.cells Mt.zero at *
  have X1 := Lib.hid (show ∀ l W, Bkd w l W → _ from fun l W k => NW.out l W k ⟨x0, x1, x2, x3⟩)
  have X2 := Lib.hid (show ∀ l W, Bkd w l W → _ from fun l W k => NW.out l W k ⟨0, 0, 0, 0⟩)
  have X3 := Lib.hid (show ∀ l W, Bkd w l W → _ from fun l W k => NW.out l W k ⟨y0, y1, y2, y3⟩)
  have CX1 := Lib.hid (show ∀ b0 b s0 s1 W, _ → _ from fun b0 b s0 s1 W k => CX.out b0 ⟨x0, x1, x2, x3⟩ b s0 s1 W k)
  have CY1 := Lib.hid (show ∀ b1 b0 b s0 s1 W, _ → _ from fun b1 b0 b s0 s1 W k => CY.out b1 ⟨0, 0, 0, 0⟩ b0 ⟨x0, x1, x2, x3⟩ b s0 s1 W k)
  have SB1 := Lib.hid (show ∀ b1 b0 b W, _ → _ from fun b1 b0 b W k => SB.out b1 ⟨0, 0, 0, 0⟩ b0 ⟨x0, x1, x2, x3⟩ b W k)
  have CX2 := Lib.hid (show ∀ b0 b s0 s1 W, _ → _ from fun b0 b s0 s1 W k => CX.out b0 ⟨0, 0, 0, 0⟩ b s0 s1 W k)
  have CY2 := Lib.hid (show ∀ b1 b0 b s0 s1 W, _ → _ from fun b1 b0 b s0 s1 W k => CY.out b1 ⟨0, 0, 0, 0⟩ b0 ⟨x0, x1, x2, x3⟩ b s0 s1 W k)
  have FC := Lib.hid (show ∀ b0 l W, Bkd w ((b0, #[.int .i64 0, .int .i64 0, .int .i64 0, .int .i64 0], 23) :: l) W → _ ∧ _ from fun b0 l W k => ⟨cells4 (k.bks.at_ 0 rfl), free4 (k.bks.at_ 0 rfl)⟩)
  have FF := Lib.hid (show ∀ b0 l W, Bkd w ((b0, #[.int .i64 0, .int .i64 0, .int .i64 0, .int .i64 0], 23) :: l) W → ∀ a0 a1 a2 a3, _ from fun b0 l W k a0 a1 a2 a3 => k.fill0 a0 a1 a2 a3)
  simp only at X1 X2 X3 CX1 CX2 CY1 CY2 SB1
  go_enter Try.func5, Try.ntmps5
  go_upto_region 9 with (first
    | (go_at_call 6; (with_reducible refine (K _).out.mono ?_); rintro e w1 ⟨rfl, hb⟩; have s1 := HST.out.over hb; clear hb; obtain ⟨⟨c0, c1, c2, c3⟩, d0, d1, d2, d3⟩ := CM.out _ s1)
    | (go_at_call 7; (with_reducible refine (L1 _).out.mono ?_); rintro e w2 ⟨rfl, hb⟩; have s2 := s1.over hb; clear hb; obtain ⟨⟨c0, c1, c2, c3⟩, d0, d1, d2, d3⟩ := CM.out _ s2)
    | (go_at_call 7; (with_reducible refine (L2 _).out.mono ?_); rintro e w3 ⟨rfl, hb⟩; have s3 := s2.over hb; clear hb; obtain ⟨⟨c0, c1, c2, c3⟩, d0, d1, d2, d3⟩ := CM.out _ s3; obtain ⟨⟨c4, c5, c6, c7⟩, d4, d5, d6, d7⟩ := CM.out _ (s3.over (below_new w3 (.cells #[.string ⟨#[]⟩, .string ⟨#[]⟩] 9))); have s4 := NS.out _ _ s3; have s4d := DW.out _ _ s4; obtain ⟨⟨e0, e1⟩, ⟨f0, f1⟩, ⟨a0, a1, a2, a3⟩, b0, b1, b2, b3⟩ := CS.out _ _ _ _ s4; obtain ⟨⟨e2, e3⟩, -⟩ := CS.out _ _ _ _ s4d; have z4 := X2.out _ _ s4; rw [show (w3.alloc (.cells #[.string S, .string ⟨#[]⟩] 9)).heap.size = w3.heap.size + 1 by simp] at z4; have z4d := DW.out _ _ z4; obtain ⟨-, ⟨h0, h1⟩, -⟩ := CX2.out _ _ _ _ _ z4d))
  go_cut [10, 11] from 62 to 71 (fun x g W => ∃ b, x = .pointer (some ⟨b, 0, none⟩) ∧ g = .int .i64 0 ∧ Hid (Bkd w [(b, #[.int .i64 x0, .int .i64 x1, .int .i64 x2, .int .i64 x3], 23), (w3.heap.size, #[.string S, .string ⟨#[]⟩], 9), (w.heap.size + 1, #[.int .i64 y0, .int .i64 y1, .int .i64 y2, .int .i64 y3], 23), (w.heap.size, #[.int .i64 x0, .int .i64 x1, .int .i64 x2, .int .i64 x3], 23)] W))
  case first =>
    have r0 := cells2 (s4.bks.at_ 0 rfl)
    have r1 := cells2 (s4d.bks.at_ 0 rfl)
    have r2 := cells2 (z4d.bks.at_ 1 rfl)
    go_region_held3 (fun W => W.cell? ⟨w3.heap.size, 0, none⟩ = some (.string S) ∧ W.cell? ⟨w3.heap.size, 1, none⟩ = some (.string ⟨#[]⟩)) (assumption)
      ((first
        | (go_at_call 15; (with_reducible refine (C1 _).out.mono ?_); rintro e w5 ⟨rfl, hb⟩; first | (have s5 := s4d.over hb; have s6 := X1.out _ _ s5; have r3 := cells2 (s5.bks.at_ 0 rfl); have r4 := cells2 ((X2.out _ _ s5).bks.at_ 1 rfl); have r5 := cells2 (s6.bks.at_ 1 rfl)) | (have s5 := z4d.over hb; obtain ⟨⟨k0, k1, k2, k3⟩, k4, k5, k6, k7⟩ := FC.out _ _ _ s5; have s6 := FF.out _ _ _ s5 (.int .i64 x0) (.int .i64 x1) (.int .i64 x2) (.int .i64 x3); have r3 := cells2 (s5.bks.at_ 1 rfl); have r4 := cells2 (s6.bks.at_ 1 rfl)))))
    all_goals
      go_wp2_with fail
      go_meet
      exact ⟨_, rfl, rfl, Lib.hid s6⟩
  case rest =>
    clear s1 s2 s3 s4 s4d e0 e1 f0 f1 a0 a1 a2 a3 b0 b1 b2 b3 e2 e3 z4 z4d h0 h1
    obtain ⟨bx, rfl, rfl, H6⟩ := hcut
    have s6 := H6.out
    have s6d := DW.out _ _ s6
    obtain ⟨-, ⟨e0, e1⟩, -⟩ := CX1.out _ _ _ _ _ s6
    obtain ⟨-, ⟨f0, f1⟩, -⟩ := CX1.out _ _ _ _ _ s6d
    have z6 := X2.out _ _ s6
    have z6d := DW.out _ _ z6
    obtain ⟨-, -, ⟨g0, g1⟩, -⟩ := CY1.out _ _ _ _ _ _ z6d
    go_upto_region 10 with fail
    go_cut [12, 13] from 72 to 81 (fun y h W => ∃ b, y = .pointer (some ⟨b, 0, none⟩) ∧ h = .int .i64 25 ∧ Hid (Bkd w [(b, #[.int .i64 0, .int .i64 0, .int .i64 0, .int .i64 0], 23), (bx, #[.int .i64 x0, .int .i64 x1, .int .i64 x2, .int .i64 x3], 23), (w3.heap.size, #[.string S, .string ⟨#[]⟩], 9), (w.heap.size + 1, #[.int .i64 y0, .int .i64 y1, .int .i64 y2, .int .i64 y3], 23), (w.heap.size, #[.int .i64 x0, .int .i64 x1, .int .i64 x2, .int .i64 x3], 23)] W))
    case first =>
      have r0 := cells2 (s6.bks.at_ 1 rfl)
      have r1 := cells2 (s6d.bks.at_ 1 rfl)
      have r2 := cells2 (z6d.bks.at_ 2 rfl)
      go_region_held3 (fun W => W.cell? ⟨w3.heap.size, 0, none⟩ = some (.string S) ∧ W.cell? ⟨w3.heap.size, 1, none⟩ = some (.string ⟨#[]⟩)) (assumption)
        ((first
          | (go_at_call 15; (with_reducible refine (C2 _).out.mono ?_); rintro e w6 ⟨rfl, hb⟩; first | (have t5 := s6d.over hb; have s7 := X2.out _ _ t5; have r3 := cells2 (t5.bks.at_ 1 rfl); have r4 := cells2 (s7.bks.at_ 2 rfl)) | (have t5 := z6d.over hb; obtain ⟨⟨k0, k1, k2, k3⟩, k4, k5, k6, k7⟩ := FC.out _ _ _ t5; have s7 := FF.out _ _ _ t5 (.int .i64 0) (.int .i64 0) (.int .i64 0) (.int .i64 0); have r3 := cells2 (t5.bks.at_ 2 rfl); have r4 := cells2 (s7.bks.at_ 2 rfl)))))
      all_goals
        go_wp2_with fail
        go_meet
        exact ⟨_, rfl, rfl, Lib.hid s7⟩
    case rest =>
      clear s6 s6d e0 e1 f0 f1 H6 z6 z6d g0 g1
      obtain ⟨bY, rfl, rfl, H7⟩ := hcut
      have s7 := H7.out
      go_upto_region 17 with (first
        | (go_at_call 15; (with_reducible refine (C3 _).out.mono ?_); rintro e w7 ⟨rfl, hb⟩; have s9 := s7.over hb; clear hb; have s10 := s9.over (below_new _ (.cells #[.int .i64 0, .int .i64 0, .int .i64 0, .int .i64 0] 23)); obtain ⟨⟨a0, a1, a2, a3⟩, ⟨b0, b1, b2, b3⟩, ⟨e0, e1⟩, ⟨f0, f1⟩, ⟨c0, c1, c2, c3⟩, d0, d1, d2, d3⟩ := CY1.out _ _ _ _ _ _ s10; have s11 := SB1.out _ _ _ _ s10; have s11d := DW.out _ _ s11; have p11 := CY1.out _ _ _ _ _ _ s11; have p11d := CY1.out _ _ _ _ _ _ s11d))
      have z11 := X2.out _ _ s11
      generalize hW : ((w7.alloc (.cells #[.int .i64 0, .int .i64 0, .int .i64 0, .int .i64 0] 23)).setCell ⟨w3.heap.size, 1, none⟩ (.string T)) = W at *
      obtain ⟨⟨a0, a1, a2, a3⟩, ⟨b0, b1, b2, b3⟩, ⟨e0, e1⟩, ⟨f0, f1⟩, ⟨c0, c1, c2, c3⟩, d0, d1, d2, d3⟩ := p11
      obtain ⟨-, -, ⟨g3, g4⟩, -⟩ := p11d
      have z11d := DW.out _ _ z11
      obtain ⟨g5, g6⟩ := cells2 (z11d.bks.at_ 3 rfl)
      clear hW
      go_cut [16, 17] from 119 to 128 (fun y h W2 => ∃ b, y = .pointer (some ⟨b, 0, none⟩) ∧ h = .int .i64 0 ∧ ∃ l, Hid (Bkd w ((b, #[.int .i64 y0, .int .i64 y1, .int .i64 y2, .int .i64 y3], 23) :: (bY, #[.int .i64 0, .int .i64 0, .int .i64 0, .int .i64 0], 23) :: (bx, #[.int .i64 x0, .int .i64 x1, .int .i64 x2, .int .i64 x3], 23) :: (w3.heap.size, #[.string S, .string T], 9) :: (w.heap.size + 1, #[.int .i64 y0, .int .i64 y1, .int .i64 y2, .int .i64 y3], 23) :: (w.heap.size, #[.int .i64 x0, .int .i64 x1, .int .i64 x2, .int .i64 x3], 23) :: l) W2))
      case first =>
        have r0 := cells2 (s11.bks.at_ 2 rfl)
        have r1 := cells2 (s11d.bks.at_ 2 rfl)
        have r2 := cells2 (z11d.bks.at_ 3 rfl)
        go_region_held3 (fun W => W.cell? ⟨w3.heap.size, 0, none⟩ = some (.string S) ∧ W.cell? ⟨w3.heap.size, 1, none⟩ = some (.string T)) (assumption)
          ((first
            | (go_at_call 15; (with_reducible refine (C4 _).out.mono ?_); rintro e w8 ⟨rfl, hb⟩; first | (have t5 := s11d.over hb; have s12 := X3.out _ _ t5; have r3 := cells2 (t5.bks.at_ 2 rfl); have r4 := cells2 ((X2.out _ _ t5).bks.at_ 3 rfl); have r5 := cells2 (s12.bks.at_ 3 rfl)) | (have t5 := z11d.over hb; obtain ⟨⟨k0, k1, k2, k3⟩, k4, k5, k6, k7⟩ := FC.out _ _ _ t5; have s12 := FF.out _ _ _ t5 (.int .i64 y0) (.int .i64 y1) (.int .i64 y2) (.int .i64 y3); have r3 := cells2 (t5.bks.at_ 3 rfl); have r4 := cells2 (s12.bks.at_ 3 rfl)))))
        all_goals
          go_wp2_with fail
          go_meet
          exact ⟨_, rfl, rfl, _, Lib.hid s12⟩
      case rest =>
        obtain ⟨bz, rfl, rfl, l, H13⟩ := hcut
        have s13 := H13.out
        obtain ⟨k0, k1, k2, k3⟩ := cells4 (s13.bks.at_ 0 rfl)
        obtain ⟨l0, l1, l2, l3⟩ := cells4 (s13.bks.at_ 5 rfl)
        obtain ⟨m0, m1, m2, m3⟩ := cells4 (s13.bks.at_ 4 rfl)
        go_wp2
        go_ret
        exact ⟨rfl, BW.out _ _ s13⟩

set_option maxRecDepth 100000 in
set_option maxHeartbeats 8000000 in
theorem slots_1_lt (w : World) (m n : Mt) (hm : m.ok) (hn : n.ok) (hm2 : m.tx % 2 = 1) (hn2 : n.tx % 2 = 0) (hg : m.tx < n.tx) :
    Calls Try.prog 5 #[m.v, n.v] w fun r w' => r = .returned (.bool true) ∧ Below w.heap.size w w' := by
  have K := fun w' => Lib.hid (alive_any6 w')
  have L1 := fun W => Lib.hid (mlay_ok W m hm)
  have L2 := fun W => Lib.hid (mlay_ok W n hn)
  have rm := m.ok_range hm
  have rn := n.ok_range hn
  have kx : bits .and .i64 m.tx 1 = 1 := by rw [and_one _ (by omega) (by omega)]; exact hm2
  have ky : bits .and .i64 n.tx 1 = 0 := by rw [and_one _ (by omega) (by omega)]; exact hn2
  have C1 := fun W => Lib.hid (choose_any W (⟨#[]⟩) (m.sector))
  have C2 := fun W => Lib.hid (choose_any W (m.sector) (⟨#[]⟩))
  have C3 := fun W => Lib.hid (choose_any W ⟨#[]⟩ ⟨#[]⟩)
  have st1 : standM m.sector 1 = m := by rw [stand_sector hm, if_pos hm2]
  have st0 : standM m.sector 0 = Mt.zero := by rw [stand_sector hm, if_neg (by omega)]
  obtain ⟨q1, q2⟩ := ch_y (a := ⟨#[]⟩) st1 (by omega) (by rw [stand_empty]; show 0 < m.tx; omega)
  obtain ⟨q3, q4⟩ := ch_none (b := ⟨#[]⟩) st0 (stand_empty 1)
  obtain ⟨q5, q6⟩ := ch_none (a := ⟨#[]⟩) (b := ⟨#[]⟩) (stand_empty 0) (stand_empty 1)
  rw [q1, q2] at C1
  rw [q3, q4] at C2
  rw [q5, q6] at C3
  have EM := fun W : World => meta_neq W m m
  rw [Mt.same_self] at EM
  have EZ := fun W : World => meta_neq W Mt.zero Mt.zero
  rw [Mt.same_self] at EZ
  have C4 := fun W => Lib.hid (choose_any W (n.sector) (m.sector))
  have sn : standM n.sector 0 = n := by rw [stand_sector hn, if_pos hn2]
  obtain ⟨q7, q8⟩ := ch_x sn (by omega) (by rw [st1]; omega)
  rw [q7, q8] at C4
  have E4 := fun W : World => meta_eql W n n
  rw [Mt.same_self] at E4
  have g1 : decide (n.tx < m.tx) = false := decide_eq_false (by omega)
  have g2 : decide (m.tx < n.tx) = true := decide_eq_true (by omega)
  clear q7 q8 sn hg
  clear q1 q2 q3 q4 q5 q6 st0 st1 rm rn hm hn hm2 hn2
  generalize m.sector = S at *
  generalize n.sector = T at *
  have HST := Lib.hid (bkd_args w m n)
  have DW := Lib.hid (show ∀ l W, Bkd w l W → Bkd w l W.drew from fun l W k => k.over ((Below.refl _ _).drew))
  have NW := Lib.hid (show ∀ l W, Bkd w l W → ∀ (x : Mt), Bkd w ((W.heap.size, x.cells, 23) :: l) (W.alloc (.cells x.cells 23)) from fun l W k x => k.new _ _)
  have NS := Lib.hid (show ∀ l W, Bkd w l W → Bkd w ((W.heap.size, #[.string ⟨#[]⟩, .string S], 9) :: l) (W.alloc (.cells #[.string ⟨#[]⟩, .string S] 9)) from fun l W k => k.new _ _)
  have CM := Lib.hid (show ∀ W, Bkd w [(w.heap.size + 1, n.cells, 23), (w.heap.size, m.cells, 23)] W → _ ∧ _ from fun W k => ⟨cells4 (k.bks.at_ 1 rfl), cells4 (k.bks.at_ 0 rfl)⟩)
  have CS := Lib.hid (show ∀ b s0 s1 W, Bkd w [(b, #[.string s0, .string s1], 9), (w.heap.size + 1, n.cells, 23), (w.heap.size, m.cells, 23)] W → _ ∧ _ ∧ _ ∧ _ from fun b s0 s1 W k => ⟨cells2 (k.bks.at_ 0 rfl), free2 (k.bks.at_ 0 rfl), cells4 (k.bks.at_ 2 rfl), cells4 (k.bks.at_ 1 rfl)⟩)
  have CX := Lib.hid (show ∀ b0 (x : Mt) b s0 s1 W, Bkd w [(b0, x.cells, 23), (b, #[.string s0, .string s1], 9), (w.heap.size + 1, n.cells, 23), (w.heap.size, m.cells, 23)] W → _ ∧ _ ∧ _ ∧ _ ∧ _ from fun b0 x b s0 s1 W k => ⟨cells4 (k.bks.at_ 0 rfl), cells2 (k.bks.at_ 1 rfl), free2 (k.bks.at_ 1 rfl), cells4 (k.bks.at_ 3 rfl), cells4 (k.bks.at_ 2 rfl)⟩)
  have CY := Lib.hid (show ∀ b1 (y : Mt) b0 (x : Mt) b s0 s1 W, Bkd w [(b1, y.cells, 23), (b0, x.cells, 23), (b, #[.string s0, .string s1], 9), (w.heap.size + 1, n.cells, 23), (w.heap.size, m.cells, 23)] W → _ ∧ _ ∧ _ ∧ _ ∧ _ ∧ _ from fun b1 y b0 x b s0 s1 W k => ⟨cells4 (k.bks.at_ 0 rfl), cells4 (k.bks.at_ 1 rfl), cells2 (k.bks.at_ 2 rfl), free2 (k.bks.at_ 2 rfl), cells4 (k.bks.at_ 4 rfl), cells4 (k.bks.at_ 3 rfl)⟩)
  have BW := Lib.hid (show ∀ l W, Bkd w l W → Below w.heap.size w W from fun l W k => k.bks.below)
  have SB := Lib.hid (show ∀ b1 (y : Mt) b0 (x : Mt) b W, Bkd w [(b1, y.cells, 23), (b0, x.cells, 23), (b, #[.string ⟨#[]⟩, .string S], 9), (w.heap.size + 1, n.cells, 23), (w.heap.size, m.cells, 23)] W → Bkd w [(b1, y.cells, 23), (b0, x.cells, 23), (b, #[.string T, .string S], 9), (w.heap.size + 1, n.cells, 23), (w.heap.size, m.cells, 23)] (W.setCell ⟨b, 0, none⟩ (.string T)) from fun b1 y b0 x b W k => k.set 2 rfl 0 (.string T))
  obtain ⟨x0, x1, x2, x3⟩ := m
  obtain ⟨y0, y1, y2, y3⟩ := n
  unfold Mt.v Mt.cells Mt.zero at *
  have X1 := Lib.hid (show ∀ l W, Bkd w l W → _ from fun l W k => NW.out l W k ⟨x0, x1, x2, x3⟩)
  have X2 := Lib.hid (show ∀ l W, Bkd w l W → _ from fun l W k => NW.out l W k ⟨0, 0, 0, 0⟩)
  have X3 := Lib.hid (show ∀ l W, Bkd w l W → _ from fun l W k => NW.out l W k ⟨y0, y1, y2, y3⟩)
  have CX1 := Lib.hid (show ∀ b0 b s0 s1 W, _ → _ from fun b0 b s0 s1 W k => CX.out b0 ⟨x0, x1, x2, x3⟩ b s0 s1 W k)
  have CY1 := Lib.hid (show ∀ b1 b0 b s0 s1 W, _ → _ from fun b1 b0 b s0 s1 W k => CY.out b1 ⟨0, 0, 0, 0⟩ b0 ⟨x0, x1, x2, x3⟩ b s0 s1 W k)
  have SB1 := Lib.hid (show ∀ b1 b0 b W, _ → _ from fun b1 b0 b W k => SB.out b1 ⟨0, 0, 0, 0⟩ b0 ⟨x0, x1, x2, x3⟩ b W k)
  have CX2 := Lib.hid (show ∀ b0 b s0 s1 W, _ → _ from fun b0 b s0 s1 W k => CX.out b0 ⟨0, 0, 0, 0⟩ b s0 s1 W k)
  have CY2 := Lib.hid (show ∀ b1 b0 b s0 s1 W, _ → _ from fun b1 b0 b s0 s1 W k => CY.out b1 ⟨0, 0, 0, 0⟩ b0 ⟨x0, x1, x2, x3⟩ b s0 s1 W k)
  have FC := Lib.hid (show ∀ b0 l W, Bkd w ((b0, #[.int .i64 0, .int .i64 0, .int .i64 0, .int .i64 0], 23) :: l) W → _ ∧ _ from fun b0 l W k => ⟨cells4 (k.bks.at_ 0 rfl), free4 (k.bks.at_ 0 rfl)⟩)
  have FF := Lib.hid (show ∀ b0 l W, Bkd w ((b0, #[.int .i64 0, .int .i64 0, .int .i64 0, .int .i64 0], 23) :: l) W → ∀ a0 a1 a2 a3, _ from fun b0 l W k a0 a1 a2 a3 => k.fill0 a0 a1 a2 a3)
  simp only at X1 X2 X3 CX1 CX2 CY1 CY2 SB1
  go_enter Try.func5, Try.ntmps5
  go_upto_region 9 with (first
    | (go_at_call 6; (with_reducible refine (K _).out.mono ?_); rintro e w1 ⟨rfl, hb⟩; have s1 := HST.out.over hb; clear hb; obtain ⟨⟨c0, c1, c2, c3⟩, d0, d1, d2, d3⟩ := CM.out _ s1)
    | (go_at_call 7; (with_reducible refine (L1 _).out.mono ?_); rintro e w2 ⟨rfl, hb⟩; have s2 := s1.over hb; clear hb; obtain ⟨⟨c0, c1, c2, c3⟩, d0, d1, d2, d3⟩ := CM.out _ s2)
    | (go_at_call 7; (with_reducible refine (L2 _).out.mono ?_); rintro e w3 ⟨rfl, hb⟩; have s3 := s2.over hb; clear hb; obtain ⟨⟨c0, c1, c2, c3⟩, d0, d1, d2, d3⟩ := CM.out _ s3; obtain ⟨⟨c4, c5, c6, c7⟩, d4, d5, d6, d7⟩ := CM.out _ (s3.over (below_new w3 (.cells #[.string ⟨#[]⟩, .string ⟨#[]⟩] 9))); have s4 := NS.out _ _ s3; have s4d := DW.out _ _ s4; obtain ⟨⟨e0, e1⟩, ⟨f0, f1⟩, ⟨a0, a1, a2, a3⟩, b0, b1, b2, b3⟩ := CS.out _ _ _ _ s4; obtain ⟨⟨e2, e3⟩, -⟩ := CS.out _ _ _ _ s4d; have z4 := X2.out _ _ s4; rw [show (w3.alloc (.cells #[.string ⟨#[]⟩, .string S] 9)).heap.size = w3.heap.size + 1 by simp] at z4; have z4d := DW.out _ _ z4; obtain ⟨-, ⟨h0, h1⟩, -⟩ := CX2.out _ _ _ _ _ z4d))
  go_cut [10, 11] from 62 to 71 (fun x g W => ∃ b, x = .pointer (some ⟨b, 0, none⟩) ∧ g = .int .i64 0 ∧ Hid (Bkd w [(b, #[.int .i64 x0, .int .i64 x1, .int .i64 x2, .int .i64 x3], 23), (w3.heap.size, #[.string ⟨#[]⟩, .string S], 9), (w.heap.size + 1, #[.int .i64 y0, .int .i64 y1, .int .i64 y2, .int .i64 y3], 23), (w.heap.size, #[.int .i64 x0, .int .i64 x1, .int .i64 x2, .int .i64 x3], 23)] W))
  case first =>
    have r0 := cells2 (s4.bks.at_ 0 rfl)
    have r1 := cells2 (s4d.bks.at_ 0 rfl)
    have r2 := cells2 (z4d.bks.at_ 1 rfl)
    go_region_held3 (fun W => W.cell? ⟨w3.heap.size, 0, none⟩ = some (.string ⟨#[]⟩) ∧ W.cell? ⟨w3.heap.size, 1, none⟩ = some (.string S)) (assumption)
      ((first
        | (go_at_call 15; (with_reducible refine (C1 _).out.mono ?_); rintro e w5 ⟨rfl, hb⟩; first | (have s5 := s4d.over hb; have s6 := X1.out _ _ s5; have r3 := cells2 (s5.bks.at_ 0 rfl); have r4 := cells2 ((X2.out _ _ s5).bks.at_ 1 rfl); have r5 := cells2 (s6.bks.at_ 1 rfl)) | (have s5 := z4d.over hb; obtain ⟨⟨k0, k1, k2, k3⟩, k4, k5, k6, k7⟩ := FC.out _ _ _ s5; have s6 := FF.out _ _ _ s5 (.int .i64 x0) (.int .i64 x1) (.int .i64 x2) (.int .i64 x3); have r3 := cells2 (s5.bks.at_ 1 rfl); have r4 := cells2 (s6.bks.at_ 1 rfl)))))
    all_goals
      go_wp2_with fail
      go_meet
      exact ⟨_, rfl, rfl, Lib.hid s6⟩
  case rest =>
    clear s1 s2 s3 s4 s4d e0 e1 f0 f1 a0 a1 a2 a3 b0 b1 b2 b3 e2 e3 z4 z4d h0 h1
    obtain ⟨bx, rfl, rfl, H6⟩ := hcut
    have s6 := H6.out
    have s6d := DW.out _ _ s6
    obtain ⟨-, ⟨e0, e1⟩, -⟩ := CX1.out _ _ _ _ _ s6
    obtain ⟨-, ⟨f0, f1⟩, -⟩ := CX1.out _ _ _ _ _ s6d
    have z6 := X2.out _ _ s6
    have z6d := DW.out _ _ z6
    obtain ⟨-, -, ⟨g0, g1⟩, -⟩ := CY1.out _ _ _ _ _ _ z6d
    go_upto_region 10 with fail
    go_cut [12, 13] from 72 to 81 (fun y h W => ∃ b, y = .pointer (some ⟨b, 0, none⟩) ∧ h = .int .i64 25 ∧ Hid (Bkd w [(b, #[.int .i64 0, .int .i64 0, .int .i64 0, .int .i64 0], 23), (bx, #[.int .i64 x0, .int .i64 x1, .int .i64 x2, .int .i64 x3], 23), (w3.heap.size, #[.string ⟨#[]⟩, .string S], 9), (w.heap.size + 1, #[.int .i64 y0, .int .i64 y1, .int .i64 y2, .int .i64 y3], 23), (w.heap.size, #[.int .i64 x0, .int .i64 x1, .int .i64 x2, .int .i64 x3], 23)] W))
    case first =>
      have r0 := cells2 (s6.bks.at_ 1 rfl)
      have r1 := cells2 (s6d.bks.at_ 1 rfl)
      have r2 := cells2 (z6d.bks.at_ 2 rfl)
      go_region_held3 (fun W => W.cell? ⟨w3.heap.size, 0, none⟩ = some (.string ⟨#[]⟩) ∧ W.cell? ⟨w3.heap.size, 1, none⟩ = some (.string S)) (assumption)
        ((first
          | (go_at_call 15; (with_reducible refine (C2 _).out.mono ?_); rintro e w6 ⟨rfl, hb⟩; first | (have t5 := s6d.over hb; have s7 := X2.out _ _ t5; have r3 := cells2 (t5.bks.at_ 1 rfl); have r4 := cells2 (s7.bks.at_ 2 rfl)) | (have t5 := z6d.over hb; obtain ⟨⟨k0, k1, k2, k3⟩, k4, k5, k6, k7⟩ := FC.out _ _ _ t5; have s7 := FF.out _ _ _ t5 (.int .i64 0) (.int .i64 0) (.int .i64 0) (.int .i64 0); have r3 := cells2 (t5.bks.at_ 2 rfl); have r4 := cells2 (s7.bks.at_ 2 rfl)))))
      all_goals
        go_wp2_with fail
        go_meet
        exact ⟨_, rfl, rfl, Lib.hid s7⟩
    case rest =>
      clear s6 s6d e0 e1 f0 f1 H6 z6 z6d g0 g1
      obtain ⟨bY, rfl, rfl, H7⟩ := hcut
      have s7 := H7.out
      go_upto_region 17 with (first
        | (go_at_call 15; (with_reducible refine (C3 _).out.mono ?_); rintro e w7 ⟨rfl, hb⟩; have s9 := s7.over hb; clear hb; have s10 := s9.over (below_new _ (.cells #[.int .i64 0, .int .i64 0, .int .i64 0, .int .i64 0] 23)); obtain ⟨⟨a0, a1, a2, a3⟩, ⟨b0, b1, b2, b3⟩, ⟨e0, e1⟩, ⟨f0, f1⟩, ⟨c0, c1, c2, c3⟩, d0, d1, d2, d3⟩ := CY1.out _ _ _ _ _ _ s10; have s11 := SB1.out _ _ _ _ s10; have s11d := DW.out _ _ s11; have p11 := CY1.out _ _ _ _ _ _ s11; have p11d := CY1.out _ _ _ _ _ _ s11d))
      have z11 := X2.out _ _ s11
      generalize hW : ((w7.alloc (.cells #[.int .i64 0, .int .i64 0, .int .i64 0, .int .i64 0] 23)).setCell ⟨w3.heap.size, 0, none⟩ (.string T)) = W at *
      obtain ⟨⟨a0, a1, a2, a3⟩, ⟨b0, b1, b2, b3⟩, ⟨e0, e1⟩, ⟨f0, f1⟩, ⟨c0, c1, c2, c3⟩, d0, d1, d2, d3⟩ := p11
      obtain ⟨-, -, ⟨g3, g4⟩, -⟩ := p11d
      have z11d := DW.out _ _ z11
      obtain ⟨g5, g6⟩ := cells2 (z11d.bks.at_ 3 rfl)
      clear hW
      go_cut [16, 17] from 119 to 128 (fun y h W2 => ∃ b, y = .pointer (some ⟨b, 0, none⟩) ∧ h = .int .i64 0 ∧ ∃ l, Hid (Bkd w ((b, #[.int .i64 y0, .int .i64 y1, .int .i64 y2, .int .i64 y3], 23) :: (bY, #[.int .i64 0, .int .i64 0, .int .i64 0, .int .i64 0], 23) :: (bx, #[.int .i64 x0, .int .i64 x1, .int .i64 x2, .int .i64 x3], 23) :: (w3.heap.size, #[.string T, .string S], 9) :: (w.heap.size + 1, #[.int .i64 y0, .int .i64 y1, .int .i64 y2, .int .i64 y3], 23) :: (w.heap.size, #[.int .i64 x0, .int .i64 x1, .int .i64 x2, .int .i64 x3], 23) :: l) W2))
      case first =>
        have r0 := cells2 (s11.bks.at_ 2 rfl)
        have r1 := cells2 (s11d.bks.at_ 2 rfl)
        have r2 := cells2 (z11d.bks.at_ 3 rfl)
        go_region_held3 (fun W => W.cell? ⟨w3.heap.size, 0, none⟩ = some (.string T) ∧ W.cell? ⟨w3.heap.size, 1, none⟩ = some (.string S)) (assumption)
          ((first
            | (go_at_call 15; (with_reducible refine (C4 _).out.mono ?_); rintro e w8 ⟨rfl, hb⟩; first | (have t5 := s11d.over hb; have s12 := X3.out _ _ t5; have r3 := cells2 (t5.bks.at_ 2 rfl); have r4 := cells2 ((X2.out _ _ t5).bks.at_ 3 rfl); have r5 := cells2 (s12.bks.at_ 3 rfl)) | (have t5 := z11d.over hb; obtain ⟨⟨k0, k1, k2, k3⟩, k4, k5, k6, k7⟩ := FC.out _ _ _ t5; have s12 := FF.out _ _ _ t5 (.int .i64 y0) (.int .i64 y1) (.int .i64 y2) (.int .i64 y3); have r3 := cells2 (t5.bks.at_ 3 rfl); have r4 := cells2 (s12.bks.at_ 3 rfl)))))
        all_goals
          go_wp2_with fail
          go_meet
          exact ⟨_, rfl, rfl, _, Lib.hid s12⟩
      case rest =>
        obtain ⟨bz, rfl, rfl, l, H13⟩ := hcut
        have s13 := H13.out
        obtain ⟨k0, k1, k2, k3⟩ := cells4 (s13.bks.at_ 0 rfl)
        obtain ⟨l0, l1, l2, l3⟩ := cells4 (s13.bks.at_ 5 rfl)
        obtain ⟨m0, m1, m2, m3⟩ := cells4 (s13.bks.at_ 4 rfl)
        go_wp2
        go_ret
        exact ⟨rfl, BW.out _ _ s13⟩

end Go.Proofs.Ytnmklhajpcnkoaa.P6
