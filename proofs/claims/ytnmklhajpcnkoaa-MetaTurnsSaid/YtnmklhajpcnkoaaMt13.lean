/-
  The reference's ReadMeta, by contract. (Written by gen_meta13.py.)
-/
import Derived.Test.YtnmklhajpcnkoaaMt10
namespace Go.Proofs.Ytnmklhajpcnkoaa.P6
open Go Go.RowKit Go.Lib Go.Proofs.Ytnmklhajpcnkoaa.P0 Go.Proofs.Ytnmklhajpcnkoaa.P2 Go.Proofs.Ytnmklhajpcnkoaa.P5

theorem rbks_read (w : World) (P : Pg) (w1 : World) (hb : Below (w.alloc (.cells Mt.zero.cells 29)).heap.size (w.alloc (.cells Mt.zero.cells 29)) w1) :
    Bks w [(w1.heap.size, P.cells, 50), (w.heap.size, Mt.zero.cells, 29)] (w1.alloc (.cells P.cells 50)) := (((Bks.nil w).new Mt.zero.cells 29).over hb).new P.cells 50
theorem rbks_got (w : World) (P : Pg) (m : Mt) (w1 : World) (hb : Below (w.alloc (.cells Mt.zero.cells 29)).heap.size (w.alloc (.cells Mt.zero.cells 29)) w1) :
    Bks w [(w1.heap.size + 1, m.cells, 29), (w1.heap.size, P.cells, 50), (w.heap.size, Mt.zero.cells, 29)] ((w1.alloc (.cells P.cells 50)).alloc (.cells m.cells 29)).drew := by
  have h := (rbks_read w P w1 hb).new m.cells 29
  have e : (w1.alloc (.cells P.cells 50)).heap.size = w1.heap.size + 1 := by simp
  rw [e] at h
  exact h.over ((Below.refl _ _).drew)
theorem num_is {s : ByteArray} {i j : Nat} {l : List UInt8} (e : (s.extract i j).data.toList = l) : IntKind.i64.wrap ((num (s.extract i j).data.toList : Nat) : Int) = wrap64 (num l) := by
  rw [e]; exact wrap_is _

theorem rmread_err (w : World) (b : ByteArray) (h : readE b ≠ 0) :
    Calls Try.prog 14 #[.string b] w fun r w' => r = .returned (.tuple #[Mt.zero.v, .int .i64 (readE b)]) ∧ Below w.heap.size w w' := by
  have HR := fun W => Lib.hid (rread_any W b)
  rw [page_zero h] at HR
  generalize readE b = e at *
  have k1 : (e != 0) = true := by simpa using h
  have HM := Lib.hid (fun w1 hb => rbks_read w Pg.zero w1 hb)
  clear h
  unfold Pg.v Pg.cells Pg.zero Mt.v Mt.cells Mt.zero at *
  have HQ := Lib.hid (show ∀ w1, _ → _ ∧ _ from fun w1 hb => (have q := HM.out w1 hb; And.intro (cells4 (q.at_ 1 rfl)) (free4 (q.at_ 1 rfl))))
  go_enter Try.func14, Try.ntmps14
  go_wp2_with (go_at_call 28; (with_reducible refine (HR _).out.mono ?_); rintro e1 w1 ⟨rfl, hb1⟩; obtain ⟨⟨a0, a1, a2, a3⟩, f0, f1, f2, f3⟩ := HQ.out _ hb1)
  obtain ⟨q1, q2⟩ := (HM.out _ hb1).fill 1 rfl (.int .i64 0) (.int .i64 0) (.int .i64 0) (.int .i64 0)
  exact bodyPost_ret (rmeta_result rfl _ _ w.heap.size _ rfl q1 rfl) rfl ⟨rfl, q2⟩

theorem rmread_len (w : World) (b : ByteArray) (h : readE b = 0) (h32 : (readP b).body.size ≠ 32) :
    Calls Try.prog 14 #[.string b] w fun r w' => r = .returned (.tuple #[Mt.zero.v, .int .i64 6]) ∧ Below w.heap.size w w' := by
  have HR := fun W => Lib.hid (rread_any W b)
  rw [h] at HR
  clear h
  generalize readP b = P at *
  have k1 : ((P.body.size : Int) != 32) = true := by simp; omega
  have HM := Lib.hid (fun w1 hb => rbks_read w P w1 hb)
  clear h32
  obtain ⟨pk, pi, pt, pb⟩ := P
  simp only at k1
  unfold Pg.v Pg.cells Mt.v Mt.cells Mt.zero at *
  have HQ := Lib.hid (show ∀ w1, _ → _ ∧ _ ∧ _ from fun w1 hb => (have q := HM.out w1 hb; And.intro (cells4 (q.at_ 0 rfl)) (And.intro (cells4 (q.at_ 1 rfl)) (free4 (q.at_ 1 rfl)))))
  go_enter Try.func14, Try.ntmps14
  go_wp2_with (go_at_call 28; (with_reducible refine (HR _).out.mono ?_); rintro e1 w1 ⟨rfl, hb1⟩; obtain ⟨⟨c0, c1, c2, c3⟩, ⟨a0, a1, a2, a3⟩, f0, f1, f2, f3⟩ := HQ.out _ hb1)
  obtain ⟨q1, q2⟩ := (HM.out _ hb1).fill 1 rfl (.int .i64 0) (.int .i64 0) (.int .i64 0) (.int .i64 0)
  exact bodyPost_ret (rmeta_result rfl _ _ w.heap.size _ rfl q1 rfl) rfl ⟨rfl, q2⟩

set_option maxRecDepth 100000 in
set_option maxHeartbeats 8000000 in
theorem rmread_bad (w : World) (b : ByteArray) (h : readE b = 0) (h32 : (readP b).body.size = 32) (hn : ¬ (refM (readP b).body).ok) :
    Calls Try.prog 14 #[.string b] w fun r w' => r = .returned (.tuple #[Mt.zero.v, .int .i64 6]) ∧ Below w.heap.size w w' := by
  have HR := fun W => Lib.hid (rread_any W b)
  rw [h] at HR
  have HV := fun W => Lib.hid (rmvalid_any W (refM (readP b).body))
  rw [decide_eq_false hn] at HV
  clear hn
  have N1 := fun W => Lib.hid (rNum_any W ((readP b).body.extract 0 8) (by rw [ByteArray.size_extract]; omega))
  have N2 := fun W => Lib.hid (rNum_any W ((readP b).body.extract 8 16) (by rw [ByteArray.size_extract]; omega))
  have N3 := fun W => Lib.hid (rNum_any W ((readP b).body.extract 16 24) (by rw [ByteArray.size_extract]; omega))
  have N4 := fun W => Lib.hid (rNum_any W ((readP b).body.extract 24 (readP b).body.size) (by rw [ByteArray.size_extract]; omega))
  have t1 : IntKind.i64.wrap ((num ((readP b).body.extract 0 8).data.toList : Nat) : Int) = (refM (readP b).body).tx := num_is (by rw [cut_list]; rfl)
  have t2 : IntKind.i64.wrap ((num ((readP b).body.extract 8 16).data.toList : Nat) : Int) = (refM (readP b).body).root := num_is (by rw [cut_list])
  have t3 : IntKind.i64.wrap ((num ((readP b).body.extract 16 24).data.toList : Nat) : Int) = (refM (readP b).body).free := num_is (by rw [cut_list])
  have t4 : IntKind.i64.wrap ((num ((readP b).body.extract 24 (readP b).body.size).data.toList : Nat) : Int) = (refM (readP b).body).pages := num_is (by rw [cut_list, h32])
  have HM := Lib.hid (fun w1 hb => rbks_read w (readP b) w1 hb)
  have HG := Lib.hid (fun w1 hb => rbks_got w (readP b) (refM (readP b).body) w1 hb)
  clear h
  generalize refM (readP b).body = m at *
  generalize readP b = P at *
  obtain ⟨pk, pi, pt, pb⟩ := P
  simp only at *
  have k1 : ((pb.size : Int) != 32) = false := by simp; omega
  have i1 : (8 : Int) ≤ (pb.size : Int) := by omega
  have i2 : (16 : Int) ≤ (pb.size : Int) := by omega
  have i3 : (24 : Int) ≤ (pb.size : Int) := by omega
  obtain ⟨x1, x2, x3, x4⟩ := m
  simp only at t1 t2 t3 t4
  generalize num (pb.extract 0 8).data.toList = y1 at *
  generalize num (pb.extract 8 16).data.toList = y2 at *
  generalize num (pb.extract 16 24).data.toList = y3 at *
  generalize num (pb.extract 24 pb.size).data.toList = y4 at *
  have CE := Lib.hid (show ∀ mm p r W, Bks w [(mm, (Mt.mk x1 x2 x3 x4).cells, 29), (p, (Pg.mk pk pi pt pb).cells, 50), (r, Mt.zero.cells, 29)] W → (_ ∧ _ ∧ _ ∧ _) ∧ (_ ∧ _ ∧ _ ∧ _) ∧ (_ ∧ _ ∧ _ ∧ _) from fun mm p r W k => ⟨cells4 (k.at_ 0 rfl), cells4 (k.at_ 2 rfl), free4 (k.at_ 2 rfl)⟩)
  have HQ := Lib.hid (show ∀ w1, _ → _ ∧ _ ∧ _ from fun w1 hb => (have q := HM.out w1 hb; And.intro (cells4 (q.at_ 0 rfl)) (And.intro (cells4 (q.at_ 1 rfl)) (free4 (q.at_ 1 rfl)))))
  clear h32
  unfold Pg.v Pg.cells Mt.v Mt.cells Mt.zero at *
  go_enter Try.func14, Try.ntmps14
  go_upto_region 6 with (go_at_call 28; (with_reducible refine (HR _).out.mono ?_); rintro e1 w1 ⟨rfl, hb1⟩; obtain ⟨⟨a0, a1, a2, a3⟩, ⟨c0, c1, c2, c3⟩, f0, f1, f2, f3⟩ := HQ.out _ hb1)
  go_cut [6] from 21 to 41 (fun v wx => v = .pointer (some ⟨w1.heap.size + 1, 0, none⟩) ∧ Bks w [(w1.heap.size + 1, #[.int .i64 x1, .int .i64 x2, .int .i64 x3, .int .i64 x4], 29), (w1.heap.size, #[.int .i64 pk, .int .i64 pi, .int .i64 pt, .string pb], 50), (w.heap.size, #[.int .i64 0, .int .i64 0, .int .i64 0, .int .i64 0], 29)] wx)
  case first =>
    go_region_held3 (fun W => W.cell? ⟨w1.heap.size, 3, none⟩ = some (.string pb)) (first | exact a3 | simp [a3] | assumption)
      ((first
        | (go_at_call 29; (with_reducible refine (N1 _).out.mono ?_); rintro e w2 ⟨rfl, rfl⟩)
        | (go_at_call 29; (with_reducible refine (N2 _).out.mono ?_); rintro e w2 ⟨rfl, rfl⟩)
        | (go_at_call 29; (with_reducible refine (N3 _).out.mono ?_); rintro e w2 ⟨rfl, rfl⟩)
        | (go_at_call 29; (with_reducible refine (N4 _).out.mono ?_); rintro e w2 ⟨rfl, rfl⟩)))
    all_goals
      go_wp2_with fail
      go_meet
      exact ⟨rfl, HG.out _ hb1⟩
  case rest =>
    obtain ⟨rfl, st⟩ := hcut
    obtain ⟨⟨l0, l1, l2, l3⟩, ⟨d0, d1, d2, d3⟩, g0, g1, g2, g3⟩ := CE.out _ _ _ _ st
    go_wp2_with (first
      | (go_at_call 8; (with_reducible refine (HV _).out.mono ?_); rintro e5 w5 ⟨rfl, hb5⟩; have s5 := Bks.over st hb5; obtain ⟨⟨l0, l1, l2, l3⟩, ⟨d0, d1, d2, d3⟩, g0, g1, g2, g3⟩ := CE.out _ _ _ _ s5))
    obtain ⟨q1, q2⟩ := s5.fill 2 rfl (.int .i64 0) (.int .i64 0) (.int .i64 0) (.int .i64 0)
    exact bodyPost_ret (rmeta_result rfl _ _ w.heap.size _ rfl q1 rfl) rfl ⟨rfl, q2⟩

set_option maxRecDepth 100000 in
set_option maxHeartbeats 8000000 in
theorem rmread_odd (w : World) (b : ByteArray) (h : readE b = 0) (h32 : (readP b).body.size = 32) (hn : (refM (readP b).body).ok) (hx : (refM (readP b).body).sector ≠ b) :
    Calls Try.prog 14 #[.string b] w fun r w' => r = .returned (.tuple #[Mt.zero.v, .int .i64 6]) ∧ Below w.heap.size w w' := by
  have HR := fun W => Lib.hid (rread_any W b)
  rw [h] at HR
  have HV := fun W => Lib.hid (rmvalid_any W (refM (readP b).body))
  rw [decide_eq_true hn] at HV
  have HL := fun W => Lib.hid (rmlay_ok W _ hn)
  clear hn
  have k5 := same_false hx
  clear hx
  generalize (refM (readP b).body).sector = S at *
  have N1 := fun W => Lib.hid (rNum_any W ((readP b).body.extract 0 8) (by rw [ByteArray.size_extract]; omega))
  have N2 := fun W => Lib.hid (rNum_any W ((readP b).body.extract 8 16) (by rw [ByteArray.size_extract]; omega))
  have N3 := fun W => Lib.hid (rNum_any W ((readP b).body.extract 16 24) (by rw [ByteArray.size_extract]; omega))
  have N4 := fun W => Lib.hid (rNum_any W ((readP b).body.extract 24 (readP b).body.size) (by rw [ByteArray.size_extract]; omega))
  have t1 : IntKind.i64.wrap ((num ((readP b).body.extract 0 8).data.toList : Nat) : Int) = (refM (readP b).body).tx := num_is (by rw [cut_list]; rfl)
  have t2 : IntKind.i64.wrap ((num ((readP b).body.extract 8 16).data.toList : Nat) : Int) = (refM (readP b).body).root := num_is (by rw [cut_list])
  have t3 : IntKind.i64.wrap ((num ((readP b).body.extract 16 24).data.toList : Nat) : Int) = (refM (readP b).body).free := num_is (by rw [cut_list])
  have t4 : IntKind.i64.wrap ((num ((readP b).body.extract 24 (readP b).body.size).data.toList : Nat) : Int) = (refM (readP b).body).pages := num_is (by rw [cut_list, h32])
  have HM := Lib.hid (fun w1 hb => rbks_read w (readP b) w1 hb)
  have HG := Lib.hid (fun w1 hb => rbks_got w (readP b) (refM (readP b).body) w1 hb)
  clear h
  generalize refM (readP b).body = m at *
  generalize readP b = P at *
  obtain ⟨pk, pi, pt, pb⟩ := P
  simp only at *
  have k1 : ((pb.size : Int) != 32) = false := by simp; omega
  have i1 : (8 : Int) ≤ (pb.size : Int) := by omega
  have i2 : (16 : Int) ≤ (pb.size : Int) := by omega
  have i3 : (24 : Int) ≤ (pb.size : Int) := by omega
  obtain ⟨x1, x2, x3, x4⟩ := m
  simp only at t1 t2 t3 t4
  generalize num (pb.extract 0 8).data.toList = y1 at *
  generalize num (pb.extract 8 16).data.toList = y2 at *
  generalize num (pb.extract 16 24).data.toList = y3 at *
  generalize num (pb.extract 24 pb.size).data.toList = y4 at *
  have CE := Lib.hid (show ∀ mm p r W, Bks w [(mm, (Mt.mk x1 x2 x3 x4).cells, 29), (p, (Pg.mk pk pi pt pb).cells, 50), (r, Mt.zero.cells, 29)] W → (_ ∧ _ ∧ _ ∧ _) ∧ (_ ∧ _ ∧ _ ∧ _) ∧ (_ ∧ _ ∧ _ ∧ _) from fun mm p r W k => ⟨cells4 (k.at_ 0 rfl), cells4 (k.at_ 2 rfl), free4 (k.at_ 2 rfl)⟩)
  have HQ := Lib.hid (show ∀ w1, _ → _ ∧ _ ∧ _ from fun w1 hb => (have q := HM.out w1 hb; And.intro (cells4 (q.at_ 0 rfl)) (And.intro (cells4 (q.at_ 1 rfl)) (free4 (q.at_ 1 rfl)))))
  clear h32
  unfold Pg.v Pg.cells Mt.v Mt.cells Mt.zero at *
  go_enter Try.func14, Try.ntmps14
  go_upto_region 6 with (go_at_call 28; (with_reducible refine (HR _).out.mono ?_); rintro e1 w1 ⟨rfl, hb1⟩; obtain ⟨⟨a0, a1, a2, a3⟩, ⟨c0, c1, c2, c3⟩, f0, f1, f2, f3⟩ := HQ.out _ hb1)
  go_cut [6] from 21 to 41 (fun v wx => v = .pointer (some ⟨w1.heap.size + 1, 0, none⟩) ∧ Bks w [(w1.heap.size + 1, #[.int .i64 x1, .int .i64 x2, .int .i64 x3, .int .i64 x4], 29), (w1.heap.size, #[.int .i64 pk, .int .i64 pi, .int .i64 pt, .string pb], 50), (w.heap.size, #[.int .i64 0, .int .i64 0, .int .i64 0, .int .i64 0], 29)] wx)
  case first =>
    go_region_held3 (fun W => W.cell? ⟨w1.heap.size, 3, none⟩ = some (.string pb)) (first | exact a3 | simp [a3] | assumption)
      ((first
        | (go_at_call 29; (with_reducible refine (N1 _).out.mono ?_); rintro e w2 ⟨rfl, rfl⟩)
        | (go_at_call 29; (with_reducible refine (N2 _).out.mono ?_); rintro e w2 ⟨rfl, rfl⟩)
        | (go_at_call 29; (with_reducible refine (N3 _).out.mono ?_); rintro e w2 ⟨rfl, rfl⟩)
        | (go_at_call 29; (with_reducible refine (N4 _).out.mono ?_); rintro e w2 ⟨rfl, rfl⟩)))
    all_goals
      go_wp2_with fail
      go_meet
      exact ⟨rfl, HG.out _ hb1⟩
  case rest =>
    obtain ⟨rfl, st⟩ := hcut
    obtain ⟨⟨l0, l1, l2, l3⟩, ⟨d0, d1, d2, d3⟩, g0, g1, g2, g3⟩ := CE.out _ _ _ _ st
    go_wp2_with (first
      | (go_at_call 8; (with_reducible refine (HV _).out.mono ?_); rintro e5 w5 ⟨rfl, hb5⟩; have s5 := Bks.over st hb5; obtain ⟨⟨l0, l1, l2, l3⟩, ⟨d0, d1, d2, d3⟩, g0, g1, g2, g3⟩ := CE.out _ _ _ _ s5)
      | (go_at_call 11; (with_reducible refine (HL _).out.mono ?_); rintro e6 w6 ⟨rfl, hb6⟩; have s6 := Bks.over s5 hb6; obtain ⟨⟨l0, l1, l2, l3⟩, ⟨d0, d1, d2, d3⟩, g0, g1, g2, g3⟩ := CE.out _ _ _ _ s6))
    obtain ⟨q1, q2⟩ := s6.fill 2 rfl (.int .i64 0) (.int .i64 0) (.int .i64 0) (.int .i64 0)
    exact bodyPost_ret (rmeta_result rfl _ _ w.heap.size _ rfl q1 rfl) rfl ⟨rfl, q2⟩

set_option maxRecDepth 100000 in
set_option maxHeartbeats 8000000 in
theorem rmread_good (w : World) (b : ByteArray) (h : readE b = 0) (h32 : (readP b).body.size = 32) (hn : (refM (readP b).body).ok) (hx : (refM (readP b).body).sector = b) :
    Calls Try.prog 14 #[.string b] w fun r w' => r = .returned (.tuple #[(refM (readP b).body).v, .int .i64 0]) ∧ Below w.heap.size w w' := by
  have HR := fun W => Lib.hid (rread_any W b)
  rw [h] at HR
  have HV := fun W => Lib.hid (rmvalid_any W (refM (readP b).body))
  rw [decide_eq_true hn] at HV
  have HL := fun W => Lib.hid (rmlay_ok W _ hn)
  clear hn
  have k5 := same_true hx
  clear hx
  generalize (refM (readP b).body).sector = S at *
  have N1 := fun W => Lib.hid (rNum_any W ((readP b).body.extract 0 8) (by rw [ByteArray.size_extract]; omega))
  have N2 := fun W => Lib.hid (rNum_any W ((readP b).body.extract 8 16) (by rw [ByteArray.size_extract]; omega))
  have N3 := fun W => Lib.hid (rNum_any W ((readP b).body.extract 16 24) (by rw [ByteArray.size_extract]; omega))
  have N4 := fun W => Lib.hid (rNum_any W ((readP b).body.extract 24 (readP b).body.size) (by rw [ByteArray.size_extract]; omega))
  have t1 : IntKind.i64.wrap ((num ((readP b).body.extract 0 8).data.toList : Nat) : Int) = (refM (readP b).body).tx := num_is (by rw [cut_list]; rfl)
  have t2 : IntKind.i64.wrap ((num ((readP b).body.extract 8 16).data.toList : Nat) : Int) = (refM (readP b).body).root := num_is (by rw [cut_list])
  have t3 : IntKind.i64.wrap ((num ((readP b).body.extract 16 24).data.toList : Nat) : Int) = (refM (readP b).body).free := num_is (by rw [cut_list])
  have t4 : IntKind.i64.wrap ((num ((readP b).body.extract 24 (readP b).body.size).data.toList : Nat) : Int) = (refM (readP b).body).pages := num_is (by rw [cut_list, h32])
  have HM := Lib.hid (fun w1 hb => rbks_read w (readP b) w1 hb)
  have HG := Lib.hid (fun w1 hb => rbks_got w (readP b) (refM (readP b).body) w1 hb)
  clear h
  generalize refM (readP b).body = m at *
  generalize readP b = P at *
  obtain ⟨pk, pi, pt, pb⟩ := P
  simp only at *
  have k1 : ((pb.size : Int) != 32) = false := by simp; omega
  have i1 : (8 : Int) ≤ (pb.size : Int) := by omega
  have i2 : (16 : Int) ≤ (pb.size : Int) := by omega
  have i3 : (24 : Int) ≤ (pb.size : Int) := by omega
  obtain ⟨x1, x2, x3, x4⟩ := m
  simp only at t1 t2 t3 t4
  generalize num (pb.extract 0 8).data.toList = y1 at *
  generalize num (pb.extract 8 16).data.toList = y2 at *
  generalize num (pb.extract 16 24).data.toList = y3 at *
  generalize num (pb.extract 24 pb.size).data.toList = y4 at *
  have CE := Lib.hid (show ∀ mm p r W, Bks w [(mm, (Mt.mk x1 x2 x3 x4).cells, 29), (p, (Pg.mk pk pi pt pb).cells, 50), (r, Mt.zero.cells, 29)] W → (_ ∧ _ ∧ _ ∧ _) ∧ (_ ∧ _ ∧ _ ∧ _) ∧ (_ ∧ _ ∧ _ ∧ _) from fun mm p r W k => ⟨cells4 (k.at_ 0 rfl), cells4 (k.at_ 2 rfl), free4 (k.at_ 2 rfl)⟩)
  have HQ := Lib.hid (show ∀ w1, _ → _ ∧ _ ∧ _ from fun w1 hb => (have q := HM.out w1 hb; And.intro (cells4 (q.at_ 0 rfl)) (And.intro (cells4 (q.at_ 1 rfl)) (free4 (q.at_ 1 rfl)))))
  clear h32
  unfold Pg.v Pg.cells Mt.v Mt.cells Mt.zero at *
  go_enter Try.func14, Try.ntmps14
  go_upto_region 6 with (go_at_call 28; (with_reducible refine (HR _).out.mono ?_); rintro e1 w1 ⟨rfl, hb1⟩; obtain ⟨⟨a0, a1, a2, a3⟩, ⟨c0, c1, c2, c3⟩, f0, f1, f2, f3⟩ := HQ.out _ hb1)
  go_cut [6] from 21 to 41 (fun v wx => v = .pointer (some ⟨w1.heap.size + 1, 0, none⟩) ∧ Bks w [(w1.heap.size + 1, #[.int .i64 x1, .int .i64 x2, .int .i64 x3, .int .i64 x4], 29), (w1.heap.size, #[.int .i64 pk, .int .i64 pi, .int .i64 pt, .string pb], 50), (w.heap.size, #[.int .i64 0, .int .i64 0, .int .i64 0, .int .i64 0], 29)] wx)
  case first =>
    go_region_held3 (fun W => W.cell? ⟨w1.heap.size, 3, none⟩ = some (.string pb)) (first | exact a3 | simp [a3] | assumption)
      ((first
        | (go_at_call 29; (with_reducible refine (N1 _).out.mono ?_); rintro e w2 ⟨rfl, rfl⟩)
        | (go_at_call 29; (with_reducible refine (N2 _).out.mono ?_); rintro e w2 ⟨rfl, rfl⟩)
        | (go_at_call 29; (with_reducible refine (N3 _).out.mono ?_); rintro e w2 ⟨rfl, rfl⟩)
        | (go_at_call 29; (with_reducible refine (N4 _).out.mono ?_); rintro e w2 ⟨rfl, rfl⟩)))
    all_goals
      go_wp2_with fail
      go_meet
      exact ⟨rfl, HG.out _ hb1⟩
  case rest =>
    obtain ⟨rfl, st⟩ := hcut
    obtain ⟨⟨l0, l1, l2, l3⟩, ⟨d0, d1, d2, d3⟩, g0, g1, g2, g3⟩ := CE.out _ _ _ _ st
    go_wp2_with (first
      | (go_at_call 8; (with_reducible refine (HV _).out.mono ?_); rintro e5 w5 ⟨rfl, hb5⟩; have s5 := Bks.over st hb5; obtain ⟨⟨l0, l1, l2, l3⟩, ⟨d0, d1, d2, d3⟩, g0, g1, g2, g3⟩ := CE.out _ _ _ _ s5)
      | (go_at_call 11; (with_reducible refine (HL _).out.mono ?_); rintro e6 w6 ⟨rfl, hb6⟩; have s6 := Bks.over s5 hb6; obtain ⟨⟨l0, l1, l2, l3⟩, ⟨d0, d1, d2, d3⟩, g0, g1, g2, g3⟩ := CE.out _ _ _ _ s6))
    obtain ⟨q1, q2⟩ := s6.fill 2 rfl (.int .i64 x1) (.int .i64 x2) (.int .i64 x3) (.int .i64 x4)
    exact bodyPost_ret (rmeta_result rfl _ _ w.heap.size _ rfl q1 rfl) rfl ⟨rfl, q2⟩

theorem rmread_any (w : World) (b : ByteArray) :
    Calls Try.prog 14 #[.string b] w fun r w' => r = .returned (.tuple #[(readM b).v, .int .i64 (readR b)]) ∧ Below w.heap.size w w' := by
  by_cases h : readE b = 0
  · obtain ⟨r1, r2⟩ := readR_ref b h
    by_cases k : (readP b).body.size = 32 ∧ (refM (readP b).body).ok ∧ (refM (readP b).body).sector = b
    · rw [r1.2 k, r2 k]
      exact rmread_good w b h k.1 k.2.1 k.2.2
    · have h0 : readR b ≠ 0 := fun e => k (r1.1 e)
      rw [readR_six h h0, meta_none h0]
      by_cases h32 : (readP b).body.size = 32
      · by_cases hn : (refM (readP b).body).ok
        · exact rmread_odd w b h h32 hn (fun hx => k ⟨h32, hn, hx⟩)
        · exact rmread_bad w b h h32 hn
      · exact rmread_len w b h h32
  · have h0 : readR b = readE b := if_neg h
    rw [meta_none (by rw [h0]; exact h), h0]
    exact rmread_err w b h

end Go.Proofs.Ytnmklhajpcnkoaa.P6
