/-
  Texts of the proof of SaidPlay8b.
-/
import Derived.Test.YtbkngnjkaledlaaGreatMp36
set_option maxHeartbeats 8000000
set_option maxRecDepth 100000
namespace Go.Proofs.YtbkngnjkaledlaaGreat.P6
open Go Go.RowKit Go.Lib P0 P2 P5
theorem rbks_read (w : World) (P : Pg) (w1 : World) (hb : Below (w.alloc (.cells Mt.zero.cells 93)).heap.size (w.alloc (.cells Mt.zero.cells 93)) w1) :
  Bks w [(w1.heap.size, P.cells, 47), (w.heap.size, Mt.zero.cells, 93)] (w1.alloc (.cells P.cells 47)) := (((Bks.nil w).new Mt.zero.cells 93).over hb).new P.cells 47
theorem rbks_got (w : World) (P : Pg) (m : Mt) (w1 : World) (hb : Below (w.alloc (.cells Mt.zero.cells 93)).heap.size (w.alloc (.cells Mt.zero.cells 93)) w1) :
  Bks w [(w1.heap.size + 1, m.cells, 93), (w1.heap.size, P.cells, 47), (w.heap.size, Mt.zero.cells, 93)] ((w1.alloc (.cells P.cells 47)).alloc (.cells m.cells 93)).drew := by
 have h := (rbks_read w P w1 hb).new m.cells 93
 have e : (w1.alloc (.cells P.cells 47)).heap.size = w1.heap.size + 1 := by simp
 rw [e] at h
 exact h.over ((Below.refl _ _).drew)
theorem num_is {s : ByteArray} {i j : Nat} {l : List UInt8} (e : (s.extract i j).data.toList = l) : IntKind.i64.wrap ((num (s.extract i j).data.toList : Nat) : Int) = wrap64 (num l) := by
 rw [e]; exact wrap_is _
theorem rmread_err (w : World) (b : ByteArray) (h : readE b ≠ 0) :
  Calls Tryz.prog 109 #[.string b] w fun r w' => r = .returned (.tuple #[Mt.zero.v, .int .i64 (readE b)]) ∧ Below w.heap.size w w' := by
 have HR := fun W => Lib.hid (rread_any W b)
 rw [page_zero h] at HR
 generalize readE b = e at *
 have k1 : (e != 0) = true := by simpa using h
 have HM := Lib.hid (fun w1 hb => rbks_read w Pg.zero w1 hb)
 clear h
 unfold Pg.v Pg.cells Pg.zero Mt.v Mt.cells Mt.zero at *
 have HQ := Lib.hid (show ∀ w1, _ → _ ∧ _ from fun w1 hb => (have q := HM.out w1 hb; And.intro (cells4 (q.at_ 1 rfl)) (free4 (q.at_ 1 rfl))))
 go_enter Tryz.func109, Tryz.ntmps109
 go_wp2_with (go_at_call 69; (with_reducible refine (HR _).out.mono ?_); rintro e1 w1 ⟨rfl, hb1⟩; obtain ⟨⟨a0, a1, a2, a3⟩, f0, f1, f2, f3⟩ := HQ.out _ hb1)
 obtain ⟨q1, q2⟩ := (HM.out _ hb1).fill 1 rfl (.int .i64 0) (.int .i64 0) (.int .i64 0) (.int .i64 0)
 exact bodyPost_ret (rmeta_result rfl _ _ w.heap.size _ rfl q1 rfl) rfl ⟨rfl, q2⟩
theorem rmread_len (w : World) (b : ByteArray) (h : readE b = 0) (h32 : (readP b).body.size ≠ 32) :
  Calls Tryz.prog 109 #[.string b] w fun r w' => r = .returned (.tuple #[Mt.zero.v, .int .i64 6]) ∧ Below w.heap.size w w' := by
 have HR := fun W => Lib.hid (rread_any W b)
 rw [h] at HR
 clear h
 generalize readP b = P at *
 have k1 : ((P.body.size : Int) != 32) = true := by simp; omega
 have HM := Lib.hid (fun w1 hb => rbks_read w P w1 hb)
 clear h32
 obtain ⟨pk, pi, pt, pb⟩ := P
 simp only at k1
 unfold Pg.v Pg.cells Mt.v Mt.cells Mt.zero at *
 have HQ := Lib.hid (show ∀ w1, _ → _ ∧ _ ∧ _ from fun w1 hb => (have q := HM.out w1 hb; And.intro (cells4 (q.at_ 0 rfl)) (And.intro (cells4 (q.at_ 1 rfl)) (free4 (q.at_ 1 rfl)))))
 go_enter Tryz.func109, Tryz.ntmps109
 go_wp2_with (go_at_call 69; (with_reducible refine (HR _).out.mono ?_); rintro e1 w1 ⟨rfl, hb1⟩; obtain ⟨⟨c0, c1, c2, c3⟩, ⟨a0, a1, a2, a3⟩, f0, f1, f2, f3⟩ := HQ.out _ hb1)
 obtain ⟨q1, q2⟩ := (HM.out _ hb1).fill 1 rfl (.int .i64 0) (.int .i64 0) (.int .i64 0) (.int .i64 0)
 exact bodyPost_ret (rmeta_result rfl _ _ w.heap.size _ rfl q1 rfl) rfl ⟨rfl, q2⟩
theorem rmread_bad (w : World) (b : ByteArray) (h : readE b = 0) (h32 : (readP b).body.size = 32) (hn : ¬ (refM (readP b).body).ok) :
  Calls Tryz.prog 109 #[.string b] w fun r w' => r = .returned (.tuple #[Mt.zero.v, .int .i64 6]) ∧ Below w.heap.size w w' := by
 have HR := fun W => Lib.hid (rread_any W b)
 rw [h] at HR
 have HV := fun W => Lib.hid (rmvalid_any W (refM (readP b).body))
 rw [decide_eq_false hn] at HV
 clear hn
 have N1 := fun W => Lib.hid (rNum_any W ((readP b).body.extract 0 8) (by rw [ByteArray.size_extract]; omega))
 have N2 := fun W => Lib.hid (rNum_any W ((readP b).body.extract 8 16) (by rw [ByteArray.size_extract]; omega))
 have N3 := fun W => Lib.hid (rNum_any W ((readP b).body.extract 16 24) (by rw [ByteArray.size_extract]; omega))
 have N4 := fun W => Lib.hid (rNum_any W ((readP b).body.extract 24 (readP b).body.size) (by rw [ByteArray.size_extract]; omega))
 have t1 : IntKind.i64.wrap ((num ((readP b).body.extract 0 8).data.toList : Nat) : Int) = (refM (readP b).body).tx := num_is (by rw [cut_list]; rfl)
 have t2 : IntKind.i64.wrap ((num ((readP b).body.extract 8 16).data.toList : Nat) : Int) = (refM (readP b).body).root := num_is (by rw [cut_list])
 have t3 : IntKind.i64.wrap ((num ((readP b).body.extract 16 24).data.toList : Nat) : Int) = (refM (readP b).body).free := num_is (by rw [cut_list])
 have t4 : IntKind.i64.wrap ((num ((readP b).body.extract 24 (readP b).body.size).data.toList : Nat) : Int) = (refM (readP b).body).pages := num_is (by rw [cut_list, h32])
 have HM := Lib.hid (fun w1 hb => rbks_read w (readP b) w1 hb)
 have HG := Lib.hid (fun w1 hb => rbks_got w (readP b) (refM (readP b).body) w1 hb)
 clear h
 generalize refM (readP b).body = m at *
 generalize readP b = P at *
 obtain ⟨pk, pi, pt, pb⟩ := P
 simp only at *
 have k1 : ((pb.size : Int) != 32) = false := by simp; omega
 have i1 : (8 : Int) ≤ (pb.size : Int) := by omega
 have i2 : (16 : Int) ≤ (pb.size : Int) := by omega
 have i3 : (24 : Int) ≤ (pb.size : Int) := by omega
 obtain ⟨x1, x2, x3, x4⟩ := m
 simp only at t1 t2 t3 t4
 generalize num (pb.extract 0 8).data.toList = y1 at *
 generalize num (pb.extract 8 16).data.toList = y2 at *
 generalize num (pb.extract 16 24).data.toList = y3 at *
 generalize num (pb.extract 24 pb.size).data.toList = y4 at *
 have CE := Lib.hid (show ∀ mm p r W, Bks w [(mm, (Mt.mk x1 x2 x3 x4).cells, 93), (p, (Pg.mk pk pi pt pb).cells, 47), (r, Mt.zero.cells, 93)] W → (_ ∧ _ ∧ _ ∧ _) ∧ (_ ∧ _ ∧ _ ∧ _) ∧ (_ ∧ _ ∧ _ ∧ _) from fun mm p r W k => ⟨cells4 (k.at_ 0 rfl), cells4 (k.at_ 2 rfl), free4 (k.at_ 2 rfl)⟩)
 have HQ := Lib.hid (show ∀ w1, _ → _ ∧ _ ∧ _ from fun w1 hb => (have q := HM.out w1 hb; And.intro (cells4 (q.at_ 0 rfl)) (And.intro (cells4 (q.at_ 1 rfl)) (free4 (q.at_ 1 rfl)))))
 clear h32
 unfold Pg.v Pg.cells Mt.v Mt.cells Mt.zero at *
 go_enter Tryz.func109, Tryz.ntmps109
 go_upto_region 6 with (go_at_call 69; (with_reducible refine (HR _).out.mono ?_); rintro e1 w1 ⟨rfl, hb1⟩; obtain ⟨⟨a0, a1, a2, a3⟩, ⟨c0, c1, c2, c3⟩, f0, f1, f2, f3⟩ := HQ.out _ hb1)
 go_cut [6] from 21 to 41 (fun v wx => v = .pointer (some ⟨w1.heap.size + 1, 0, none⟩) ∧ Bks w [(w1.heap.size + 1, #[.int .i64 x1, .int .i64 x2, .int .i64 x3, .int .i64 x4], 93), (w1.heap.size, #[.int .i64 pk, .int .i64 pi, .int .i64 pt, .string pb], 47), (w.heap.size, #[.int .i64 0, .int .i64 0, .int .i64 0, .int .i64 0], 93)] wx)
 case first =>
  go_region_held3 (fun W => W.cell? ⟨w1.heap.size, 3, none⟩ = some (.string pb)) (first | exact a3 | simp [a3] | assumption)
   ((first
    | (go_at_call 107; (with_reducible refine (N1 _).out.mono ?_); rintro e w2 ⟨rfl, rfl⟩)
    | (go_at_call 107; (with_reducible refine (N2 _).out.mono ?_); rintro e w2 ⟨rfl, rfl⟩)
    | (go_at_call 107; (with_reducible refine (N3 _).out.mono ?_); rintro e w2 ⟨rfl, rfl⟩)
    | (go_at_call 107; (with_reducible refine (N4 _).out.mono ?_); rintro e w2 ⟨rfl, rfl⟩)))
  all_goals
   go_wp2_with fail
   go_meet
   exact ⟨rfl, HG.out _ hb1⟩
 case rest =>
  obtain ⟨rfl, st⟩ := hcut
  obtain ⟨⟨l0, l1, l2, l3⟩, ⟨d0, d1, d2, d3⟩, g0, g1, g2, g3⟩ := CE.out _ _ _ _ st
  go_wp2_with (first
   | (go_at_call 43; (with_reducible refine (HV _).out.mono ?_); rintro e5 w5 ⟨rfl, hb5⟩; have s5 := Bks.over st hb5; obtain ⟨⟨l0, l1, l2, l3⟩, ⟨d0, d1, d2, d3⟩, g0, g1, g2, g3⟩ := CE.out _ _ _ _ s5))
  obtain ⟨q1, q2⟩ := s5.fill 2 rfl (.int .i64 0) (.int .i64 0) (.int .i64 0) (.int .i64 0)
  exact bodyPost_ret (rmeta_result rfl _ _ w.heap.size _ rfl q1 rfl) rfl ⟨rfl, q2⟩
theorem rmread_odd (w : World) (b : ByteArray) (h : readE b = 0) (h32 : (readP b).body.size = 32) (hn : (refM (readP b).body).ok) (hx : (refM (readP b).body).sector ≠ b) :
  Calls Tryz.prog 109 #[.string b] w fun r w' => r = .returned (.tuple #[Mt.zero.v, .int .i64 6]) ∧ Below w.heap.size w w' := by
 have HR := fun W => Lib.hid (rread_any W b)
 rw [h] at HR
 have HV := fun W => Lib.hid (rmvalid_any W (refM (readP b).body))
 rw [decide_eq_true hn] at HV
 have HL := fun W => Lib.hid (rmlay_ok W _ hn)
 clear hn
 have k5 := same_false hx
 clear hx
 generalize (refM (readP b).body).sector = S at *
 have N1 := fun W => Lib.hid (rNum_any W ((readP b).body.extract 0 8) (by rw [ByteArray.size_extract]; omega))
 have N2 := fun W => Lib.hid (rNum_any W ((readP b).body.extract 8 16) (by rw [ByteArray.size_extract]; omega))
 have N3 := fun W => Lib.hid (rNum_any W ((readP b).body.extract 16 24) (by rw [ByteArray.size_extract]; omega))
 have N4 := fun W => Lib.hid (rNum_any W ((readP b).body.extract 24 (readP b).body.size) (by rw [ByteArray.size_extract]; omega))
 have t1 : IntKind.i64.wrap ((num ((readP b).body.extract 0 8).data.toList : Nat) : Int) = (refM (readP b).body).tx := num_is (by rw [cut_list]; rfl)
 have t2 : IntKind.i64.wrap ((num ((readP b).body.extract 8 16).data.toList : Nat) : Int) = (refM (readP b).body).root := num_is (by rw [cut_list])
 have t3 : IntKind.i64.wrap ((num ((readP b).body.extract 16 24).data.toList : Nat) : Int) = (refM (readP b).body).free := num_is (by rw [cut_list])
 have t4 : IntKind.i64.wrap ((num ((readP b).body.extract 24 (readP b).body.size).data.toList : Nat) : Int) = (refM (readP b).body).pages := num_is (by rw [cut_list, h32])
 have HM := Lib.hid (fun w1 hb => rbks_read w (readP b) w1 hb)
 have HG := Lib.hid (fun w1 hb => rbks_got w (readP b) (refM (readP b).body) w1 hb)
 clear h
 generalize refM (readP b).body = m at *
 generalize readP b = P at *
 obtain ⟨pk, pi, pt, pb⟩ := P
 simp only at *
 have k1 : ((pb.size : Int) != 32) = false := by simp; omega
 have i1 : (8 : Int) ≤ (pb.size : Int) := by omega
 have i2 : (16 : Int) ≤ (pb.size : Int) := by omega
 have i3 : (24 : Int) ≤ (pb.size : Int) := by omega
 obtain ⟨x1, x2, x3, x4⟩ := m
 simp only at t1 t2 t3 t4
 generalize num (pb.extract 0 8).data.toList = y1 at *
 generalize num (pb.extract 8 16).data.toList = y2 at *
 generalize num (pb.extract 16 24).data.toList = y3 at *
 generalize num (pb.extract 24 pb.size).data.toList = y4 at *
 have CE := Lib.hid (show ∀ mm p r W, Bks w [(mm, (Mt.mk x1 x2 x3 x4).cells, 93), (p, (Pg.mk pk pi pt pb).cells, 47), (r, Mt.zero.cells, 93)] W → (_ ∧ _ ∧ _ ∧ _) ∧ (_ ∧ _ ∧ _ ∧ _) ∧ (_ ∧ _ ∧ _ ∧ _) from fun mm p r W k => ⟨cells4 (k.at_ 0 rfl), cells4 (k.at_ 2 rfl), free4 (k.at_ 2 rfl)⟩)
 have HQ := Lib.hid (show ∀ w1, _ → _ ∧ _ ∧ _ from fun w1 hb => (have q := HM.out w1 hb; And.intro (cells4 (q.at_ 0 rfl)) (And.intro (cells4 (q.at_ 1 rfl)) (free4 (q.at_ 1 rfl)))))
 clear h32
 unfold Pg.v Pg.cells Mt.v Mt.cells Mt.zero at *
 go_enter Tryz.func109, Tryz.ntmps109
 go_upto_region 6 with (go_at_call 69; (with_reducible refine (HR _).out.mono ?_); rintro e1 w1 ⟨rfl, hb1⟩; obtain ⟨⟨a0, a1, a2, a3⟩, ⟨c0, c1, c2, c3⟩, f0, f1, f2, f3⟩ := HQ.out _ hb1)
 go_cut [6] from 21 to 41 (fun v wx => v = .pointer (some ⟨w1.heap.size + 1, 0, none⟩) ∧ Bks w [(w1.heap.size + 1, #[.int .i64 x1, .int .i64 x2, .int .i64 x3, .int .i64 x4], 93), (w1.heap.size, #[.int .i64 pk, .int .i64 pi, .int .i64 pt, .string pb], 47), (w.heap.size, #[.int .i64 0, .int .i64 0, .int .i64 0, .int .i64 0], 93)] wx)
 case first =>
  go_region_held3 (fun W => W.cell? ⟨w1.heap.size, 3, none⟩ = some (.string pb)) (first | exact a3 | simp [a3] | assumption)
   ((first
    | (go_at_call 107; (with_reducible refine (N1 _).out.mono ?_); rintro e w2 ⟨rfl, rfl⟩)
    | (go_at_call 107; (with_reducible refine (N2 _).out.mono ?_); rintro e w2 ⟨rfl, rfl⟩)
    | (go_at_call 107; (with_reducible refine (N3 _).out.mono ?_); rintro e w2 ⟨rfl, rfl⟩)
    | (go_at_call 107; (with_reducible refine (N4 _).out.mono ?_); rintro e w2 ⟨rfl, rfl⟩)))
  all_goals
   go_wp2_with fail
   go_meet
   exact ⟨rfl, HG.out _ hb1⟩
 case rest =>
  obtain ⟨rfl, st⟩ := hcut
  obtain ⟨⟨l0, l1, l2, l3⟩, ⟨d0, d1, d2, d3⟩, g0, g1, g2, g3⟩ := CE.out _ _ _ _ st
  go_wp2_with (first
   | (go_at_call 43; (with_reducible refine (HV _).out.mono ?_); rintro e5 w5 ⟨rfl, hb5⟩; have s5 := Bks.over st hb5; obtain ⟨⟨l0, l1, l2, l3⟩, ⟨d0, d1, d2, d3⟩, g0, g1, g2, g3⟩ := CE.out _ _ _ _ s5)
   | (go_at_call 44; (with_reducible refine (HL _).out.mono ?_); rintro e6 w6 ⟨rfl, hb6⟩; have s6 := Bks.over s5 hb6; obtain ⟨⟨l0, l1, l2, l3⟩, ⟨d0, d1, d2, d3⟩, g0, g1, g2, g3⟩ := CE.out _ _ _ _ s6))
  obtain ⟨q1, q2⟩ := s6.fill 2 rfl (.int .i64 0) (.int .i64 0) (.int .i64 0) (.int .i64 0)
  exact bodyPost_ret (rmeta_result rfl _ _ w.heap.size _ rfl q1 rfl) rfl ⟨rfl, q2⟩
theorem rmread_good (w : World) (b : ByteArray) (h : readE b = 0) (h32 : (readP b).body.size = 32) (hn : (refM (readP b).body).ok) (hx : (refM (readP b).body).sector = b) :
  Calls Tryz.prog 109 #[.string b] w fun r w' => r = .returned (.tuple #[(refM (readP b).body).v, .int .i64 0]) ∧ Below w.heap.size w w' := by
 have HR := fun W => Lib.hid (rread_any W b)
 rw [h] at HR
 have HV := fun W => Lib.hid (rmvalid_any W (refM (readP b).body))
 rw [decide_eq_true hn] at HV
 have HL := fun W => Lib.hid (rmlay_ok W _ hn)
 clear hn
 have k5 := same_true hx
 clear hx
 generalize (refM (readP b).body).sector = S at *
 have N1 := fun W => Lib.hid (rNum_any W ((readP b).body.extract 0 8) (by rw [ByteArray.size_extract]; omega))
 have N2 := fun W => Lib.hid (rNum_any W ((readP b).body.extract 8 16) (by rw [ByteArray.size_extract]; omega))
 have N3 := fun W => Lib.hid (rNum_any W ((readP b).body.extract 16 24) (by rw [ByteArray.size_extract]; omega))
 have N4 := fun W => Lib.hid (rNum_any W ((readP b).body.extract 24 (readP b).body.size) (by rw [ByteArray.size_extract]; omega))
 have t1 : IntKind.i64.wrap ((num ((readP b).body.extract 0 8).data.toList : Nat) : Int) = (refM (readP b).body).tx := num_is (by rw [cut_list]; rfl)
 have t2 : IntKind.i64.wrap ((num ((readP b).body.extract 8 16).data.toList : Nat) : Int) = (refM (readP b).body).root := num_is (by rw [cut_list])
 have t3 : IntKind.i64.wrap ((num ((readP b).body.extract 16 24).data.toList : Nat) : Int) = (refM (readP b).body).free := num_is (by rw [cut_list])
 have t4 : IntKind.i64.wrap ((num ((readP b).body.extract 24 (readP b).body.size).data.toList : Nat) : Int) = (refM (readP b).body).pages := num_is (by rw [cut_list, h32])
 have HM := Lib.hid (fun w1 hb => rbks_read w (readP b) w1 hb)
 have HG := Lib.hid (fun w1 hb => rbks_got w (readP b) (refM (readP b).body) w1 hb)
 clear h
 generalize refM (readP b).body = m at *
 generalize readP b = P at *
 obtain ⟨pk, pi, pt, pb⟩ := P
 simp only at *
 have k1 : ((pb.size : Int) != 32) = false := by simp; omega
 have i1 : (8 : Int) ≤ (pb.size : Int) := by omega
 have i2 : (16 : Int) ≤ (pb.size : Int) := by omega
 have i3 : (24 : Int) ≤ (pb.size : Int) := by omega
 obtain ⟨x1, x2, x3, x4⟩ := m
 simp only at t1 t2 t3 t4
 generalize num (pb.extract 0 8).data.toList = y1 at *
 generalize num (pb.extract 8 16).data.toList = y2 at *
 generalize num (pb.extract 16 24).data.toList = y3 at *
 generalize num (pb.extract 24 pb.size).data.toList = y4 at *
 have CE := Lib.hid (show ∀ mm p r W, Bks w [(mm, (Mt.mk x1 x2 x3 x4).cells, 93), (p, (Pg.mk pk pi pt pb).cells, 47), (r, Mt.zero.cells, 93)] W → (_ ∧ _ ∧ _ ∧ _) ∧ (_ ∧ _ ∧ _ ∧ _) ∧ (_ ∧ _ ∧ _ ∧ _) from fun mm p r W k => ⟨cells4 (k.at_ 0 rfl), cells4 (k.at_ 2 rfl), free4 (k.at_ 2 rfl)⟩)
 have HQ := Lib.hid (show ∀ w1, _ → _ ∧ _ ∧ _ from fun w1 hb => (have q := HM.out w1 hb; And.intro (cells4 (q.at_ 0 rfl)) (And.intro (cells4 (q.at_ 1 rfl)) (free4 (q.at_ 1 rfl)))))
 clear h32
 unfold Pg.v Pg.cells Mt.v Mt.cells Mt.zero at *
 go_enter Tryz.func109, Tryz.ntmps109
 go_upto_region 6 with (go_at_call 69; (with_reducible refine (HR _).out.mono ?_); rintro e1 w1 ⟨rfl, hb1⟩; obtain ⟨⟨a0, a1, a2, a3⟩, ⟨c0, c1, c2, c3⟩, f0, f1, f2, f3⟩ := HQ.out _ hb1)
 go_cut [6] from 21 to 41 (fun v wx => v = .pointer (some ⟨w1.heap.size + 1, 0, none⟩) ∧ Bks w [(w1.heap.size + 1, #[.int .i64 x1, .int .i64 x2, .int .i64 x3, .int .i64 x4], 93), (w1.heap.size, #[.int .i64 pk, .int .i64 pi, .int .i64 pt, .string pb], 47), (w.heap.size, #[.int .i64 0, .int .i64 0, .int .i64 0, .int .i64 0], 93)] wx)
 case first =>
  go_region_held3 (fun W => W.cell? ⟨w1.heap.size, 3, none⟩ = some (.string pb)) (first | exact a3 | simp [a3] | assumption)
   ((first
    | (go_at_call 107; (with_reducible refine (N1 _).out.mono ?_); rintro e w2 ⟨rfl, rfl⟩)
    | (go_at_call 107; (with_reducible refine (N2 _).out.mono ?_); rintro e w2 ⟨rfl, rfl⟩)
    | (go_at_call 107; (with_reducible refine (N3 _).out.mono ?_); rintro e w2 ⟨rfl, rfl⟩)
    | (go_at_call 107; (with_reducible refine (N4 _).out.mono ?_); rintro e w2 ⟨rfl, rfl⟩)))
  all_goals
   go_wp2_with fail
   go_meet
   exact ⟨rfl, HG.out _ hb1⟩
 case rest =>
  obtain ⟨rfl, st⟩ := hcut
  obtain ⟨⟨l0, l1, l2, l3⟩, ⟨d0, d1, d2, d3⟩, g0, g1, g2, g3⟩ := CE.out _ _ _ _ st
  go_wp2_with (first
   | (go_at_call 43; (with_reducible refine (HV _).out.mono ?_); rintro e5 w5 ⟨rfl, hb5⟩; have s5 := Bks.over st hb5; obtain ⟨⟨l0, l1, l2, l3⟩, ⟨d0, d1, d2, d3⟩, g0, g1, g2, g3⟩ := CE.out _ _ _ _ s5)
   | (go_at_call 44; (with_reducible refine (HL _).out.mono ?_); rintro e6 w6 ⟨rfl, hb6⟩; have s6 := Bks.over s5 hb6; obtain ⟨⟨l0, l1, l2, l3⟩, ⟨d0, d1, d2, d3⟩, g0, g1, g2, g3⟩ := CE.out _ _ _ _ s6))
  obtain ⟨q1, q2⟩ := s6.fill 2 rfl (.int .i64 x1) (.int .i64 x2) (.int .i64 x3) (.int .i64 x4)
  exact bodyPost_ret (rmeta_result rfl _ _ w.heap.size _ rfl q1 rfl) rfl ⟨rfl, q2⟩
theorem rmread_any (w : World) (b : ByteArray) :
  Calls Tryz.prog 109 #[.string b] w fun r w' => r = .returned (.tuple #[(readM b).v, .int .i64 (readR b)]) ∧ Below w.heap.size w w' := by
 by_cases h : readE b = 0
 ·obtain ⟨r1, r2⟩ := readR_ref b h
  by_cases k : (readP b).body.size = 32 ∧ (refM (readP b).body).ok ∧ (refM (readP b).body).sector = b
  ·rw [r1.2 k, r2 k]
   exact rmread_good w b h k.1 k.2.1 k.2.2
  ·have h0 : readR b ≠ 0 := fun e => k (r1.1 e)
   rw [readR_six h h0, meta_none h0]
   by_cases h32 : (readP b).body.size = 32
   ·by_cases hn : (refM (readP b).body).ok
    ·exact rmread_odd w b h h32 hn (fun hx => k ⟨h32, hn, hx⟩)
    ·exact rmread_bad w b h h32 hn
   ·exact rmread_len w b h h32
 ·have h0 : readR b = readE b := if_neg h
  rw [meta_none (by rw [h0]; exact h), h0]
  exact rmread_err w b h
theorem stand_yes {b : ByteArray} {c : Int} (h : readR b = 0) (hc : (readM b).tx % 2 = c) : standM b c = readM b := if_pos ⟨h, hc⟩
theorem stand_no {b : ByteArray} {c : Int} (h : ¬ (readR b = 0 ∧ (readM b).tx % 2 = c)) : standM b c = Mt.zero := if_neg h
theorem same_zero {m : Mt} (h : 1 ≤ m.tx) : m.same Mt.zero = false := Mt.same_ne (fun e => by rw [e] at h; exact absurd h (by decide))
theorem ch_x {a b : ByteArray} {X : Mt} (h : standM a 0 = X) (h1 : 1 ≤ X.tx) (h2 : ¬ X.tx < (standM b 1).tx) : chM a b = X ∧ chE a b = 0 := by
 have e : chM a b = X := by unfold chM; rw [h, if_neg h2]
 refine ⟨e, ?_⟩
 unfold chE
 rw [e, same_zero h1, if_neg (by decide)]
theorem ch_y {a b : ByteArray} {Y : Mt} (h : standM b 1 = Y) (h1 : 1 ≤ Y.tx) (h2 : (standM a 0).tx < Y.tx) : chM a b = Y ∧ chE a b = 0 := by
 have e : chM a b = Y := by unfold chM; rw [h, if_pos h2]
 refine ⟨e, ?_⟩
 unfold chE
 rw [e, same_zero h1, if_neg (by decide)]
theorem ch_none {a b : ByteArray} (h : standM a 0 = Mt.zero) (h2 : standM b 1 = Mt.zero) : chM a b = Mt.zero ∧ chE a b = 25 := by
 have e : chM a b = Mt.zero := by unfold chM; rw [h, h2, if_neg (by decide)]
 refine ⟨e, ?_⟩
 unfold chE
 rw [e, Mt.same_self, if_pos rfl]
theorem Bks.drewN {w0 : World} {l : List (Nat × Array Value × TypeId)} {w : World} (h : Bks w0 l w) (n : Nat) : Bks w0 l (w.drewN n) :=
 ⟨h.have_, ⟨h.below.os, h.below.tape, h.below.output, h.below.size, h.below.block⟩⟩
theorem rbks_three (w : World) (x y : Mt) (w1 w2 : World) (h1 : Below (w.alloc (.cells Mt.zero.cells 93)).heap.size (w.alloc (.cells Mt.zero.cells 93)) w1) (h2 : Below (w1.alloc (.cells x.cells 93)).heap.size (w1.alloc (.cells x.cells 93)) w2) :
  Bks w [(w2.heap.size, y.cells, 93), (w1.heap.size, x.cells, 93), (w.heap.size, Mt.zero.cells, 93)] (w2.alloc (.cells y.cells 93)) :=
 (((((Bks.nil w).new Mt.zero.cells 93).over h1).new x.cells 93).over h2).new _ _
theorem rchoose_any (w : World) (a b : ByteArray) :
  Calls Tryz.prog 71 #[.string a, .string b] w fun r w' => r = .returned (.tuple #[(chM a b).v, .int .i64 (chE a b)]) ∧ Below w.heap.size w w' := by
 have HA := fun W => Lib.hid (rmread_any W a)
 have HB := fun W => Lib.hid (rmread_any W b)
 have OA : readR a = 0 → 1 ≤ (readM a).tx ∧ (readM a).tx ≤ 1099511627776 := fun h => by
  obtain ⟨m, hm, _, e⟩ := meta_there h
  have := m.ok_range hm
  rw [e]; omega
 have OB : readR b = 0 → 1 ≤ (readM b).tx ∧ (readM b).tx ≤ 1099511627776 := fun h => by
  obtain ⟨m, hm, _, e⟩ := meta_there h
  have := m.ok_range hm
  rw [e]; omega
 have HM := Lib.hid (fun w1 w2 h1 h2 => rbks_three w (readM a) (readM b) w1 w2 h1 h2)
 have Z0 : Mt.zero.tx = 0 := rfl
 have HD := Lib.hid (show ∀ l W n, Bks w l W → Bks w l (W.drewN n) from fun l W n k => k.drewN n)
 by_cases h1 : readR a = 0
 ·skip
  have ea : (readR a == 0) = true := by simp [h1]
  have oa := OA h1
  by_cases h2 : (readM a).tx % 2 = 0
  ·skip
   have pa : ((readM a).tx % 2 == 0) = true := by simp; omega
   have pat : ((readM a).tx.tmod 2 == 0) = true := by rw [Int.tmod_eq_emod_of_nonneg (by omega)]; simp; omega
   have par : (readM a).tx.tmod 2 = (readM a).tx % 2 := Int.tmod_eq_emod_of_nonneg (by omega)
   have sa : standM a 0 = readM a := stand_yes h1 h2
   by_cases h3 : readR b = 0
   ·skip
    have eb : (readR b == 0) = true := by simp [h3]
    have ob := OB h3
    by_cases h4 : (readM b).tx % 2 = 1
    ·skip
     have pb : ((readM b).tx % 2 == 1) = true := by simp; omega
     have pbt : ((readM b).tx.tmod 2 == 1) = true := by rw [Int.tmod_eq_emod_of_nonneg (by omega)]; simp; omega
     have pbr : (readM b).tx.tmod 2 = (readM b).tx % 2 := Int.tmod_eq_emod_of_nonneg (by omega)
     have sb : standM b 1 = readM b := stand_yes h3 h4
     by_cases h5 : (readM b).tx < (readM a).tx
     ·skip
      have gt : decide ((readM b).tx < (readM a).tx) = true := decide_eq_true h5
      obtain ⟨e1, e2⟩ : chM a b = readM a ∧ chE a b = 0 := ch_x sa oa.1 (by rw [sb]; omega)
      rw [e1, e2]
      (try clear oa); (try clear ob); clear e1 e2 OA OB Z0 sa sb h1 h2 h3 h4 h5
      generalize readM a = x at *
      generalize readM b = y at *
      generalize readR a = ea at *
      generalize readR b = eb at *
      obtain ⟨x0, x1, x2, x3⟩ := x
      obtain ⟨y0, y1, y2, y3⟩ := y
      try simp only at *
      have HQ := Lib.hid (show ∀ w1 w2, _ → _ → _ ∧ _ ∧ _ ∧ _ from fun w1 w2 h1 h2 => (have q := HM.out w1 w2 h1 h2; And.intro (cells4 (q.at_ 0 rfl)) (And.intro (cells4 (q.at_ 1 rfl)) (And.intro (cells4 (q.at_ 2 rfl)) (free4 (q.at_ 2 rfl))))))
      unfold Mt.v Mt.cells Mt.zero at *
      go_enter Tryz.func71, Tryz.ntmps71
      go_wp2_with (first
       | (go_at_call 109; (with_reducible refine (HA _).out.mono ?_); rintro e1 w1 ⟨rfl, hb1⟩)
       | (go_at_call 109; (with_reducible refine (HB _).out.mono ?_); rintro e2 w2 ⟨rfl, hb2⟩; obtain ⟨⟨a0, a1, a2, a3⟩, ⟨c0, c1, c2, c3⟩, ⟨d0, d1, d2, d3⟩, g0, g1, g2, g3⟩ := HQ.out _ _ hb1 hb2))
      go_quiet (fail)
      go_wp2
      obtain ⟨q1, q2⟩ := (HD.out _ _ nq (HM.out _ _ hb1 hb2)).fill 2 rfl (.int .i64 x0) (.int .i64 x1) (.int .i64 x2) (.int .i64 x3)
      exact bodyPost_ret (rmeta_result rfl _ _ w.heap.size _ rfl q1 rfl) rfl ⟨rfl, q2⟩
     ·skip
      have gt : decide ((readM b).tx < (readM a).tx) = false := decide_eq_false h5
      obtain ⟨e1, e2⟩ : chM a b = readM b ∧ chE a b = 0 := ch_y sb ob.1 (by rw [sa]; omega)
      rw [e1, e2]
      (try clear oa); (try clear ob); clear e1 e2 OA OB Z0 sa sb h1 h2 h3 h4 h5
      generalize readM a = x at *
      generalize readM b = y at *
      generalize readR a = ea at *
      generalize readR b = eb at *
      obtain ⟨x0, x1, x2, x3⟩ := x
      obtain ⟨y0, y1, y2, y3⟩ := y
      try simp only at *
      have HQ := Lib.hid (show ∀ w1 w2, _ → _ → _ ∧ _ ∧ _ ∧ _ from fun w1 w2 h1 h2 => (have q := HM.out w1 w2 h1 h2; And.intro (cells4 (q.at_ 0 rfl)) (And.intro (cells4 (q.at_ 1 rfl)) (And.intro (cells4 (q.at_ 2 rfl)) (free4 (q.at_ 2 rfl))))))
      unfold Mt.v Mt.cells Mt.zero at *
      go_enter Tryz.func71, Tryz.ntmps71
      go_wp2_with (first
       | (go_at_call 109; (with_reducible refine (HA _).out.mono ?_); rintro e1 w1 ⟨rfl, hb1⟩)
       | (go_at_call 109; (with_reducible refine (HB _).out.mono ?_); rintro e2 w2 ⟨rfl, hb2⟩; obtain ⟨⟨a0, a1, a2, a3⟩, ⟨c0, c1, c2, c3⟩, ⟨d0, d1, d2, d3⟩, g0, g1, g2, g3⟩ := HQ.out _ _ hb1 hb2))
      go_quiet (fail)
      go_wp2
      obtain ⟨q1, q2⟩ := (HD.out _ _ nq (HM.out _ _ hb1 hb2)).fill 2 rfl (.int .i64 y0) (.int .i64 y1) (.int .i64 y2) (.int .i64 y3)
      exact bodyPost_ret (rmeta_result rfl _ _ w.heap.size _ rfl q1 rfl) rfl ⟨rfl, q2⟩
    ·skip
     have pb : ((readM b).tx % 2 == 1) = false := by simp; omega
     have pbt : ((readM b).tx.tmod 2 == 1) = false := by rw [Int.tmod_eq_emod_of_nonneg (by omega)]; simp; omega
     have pbr : (readM b).tx.tmod 2 = (readM b).tx % 2 := Int.tmod_eq_emod_of_nonneg (by omega)
     have sb : standM b 1 = Mt.zero := stand_no (fun k => h4 k.2)
     obtain ⟨e1, e2⟩ : chM a b = readM a ∧ chE a b = 0 := ch_x sa oa.1 (by rw [sb, Z0]; omega)
     rw [e1, e2]
     (try clear oa); (try clear ob); clear e1 e2 OA OB Z0 sa sb h1 h2 h3 h4
     generalize readM a = x at *
     generalize readM b = y at *
     generalize readR a = ea at *
     generalize readR b = eb at *
     obtain ⟨x0, x1, x2, x3⟩ := x
     obtain ⟨y0, y1, y2, y3⟩ := y
     try simp only at *
     have HQ := Lib.hid (show ∀ w1 w2, _ → _ → _ ∧ _ ∧ _ ∧ _ from fun w1 w2 h1 h2 => (have q := HM.out w1 w2 h1 h2; And.intro (cells4 (q.at_ 0 rfl)) (And.intro (cells4 (q.at_ 1 rfl)) (And.intro (cells4 (q.at_ 2 rfl)) (free4 (q.at_ 2 rfl))))))
     unfold Mt.v Mt.cells Mt.zero at *
     go_enter Tryz.func71, Tryz.ntmps71
     go_wp2_with (first
      | (go_at_call 109; (with_reducible refine (HA _).out.mono ?_); rintro e1 w1 ⟨rfl, hb1⟩)
      | (go_at_call 109; (with_reducible refine (HB _).out.mono ?_); rintro e2 w2 ⟨rfl, hb2⟩; obtain ⟨⟨a0, a1, a2, a3⟩, ⟨c0, c1, c2, c3⟩, ⟨d0, d1, d2, d3⟩, g0, g1, g2, g3⟩ := HQ.out _ _ hb1 hb2))
     go_quiet (fail)
     go_wp2
     obtain ⟨q1, q2⟩ := (HD.out _ _ nq (HM.out _ _ hb1 hb2)).fill 2 rfl (.int .i64 x0) (.int .i64 x1) (.int .i64 x2) (.int .i64 x3)
     exact bodyPost_ret (rmeta_result rfl _ _ w.heap.size _ rfl q1 rfl) rfl ⟨rfl, q2⟩
   ·skip
    have eb : (readR b == 0) = false := by simp [h3]
    have sb : standM b 1 = Mt.zero := stand_no (fun k => h3 k.1)
    obtain ⟨e1, e2⟩ : chM a b = readM a ∧ chE a b = 0 := ch_x sa oa.1 (by rw [sb, Z0]; omega)
    rw [e1, e2]
    (try clear oa); (try clear ob); clear e1 e2 OA OB Z0 sa sb h1 h2 h3
    generalize readM a = x at *
    generalize readM b = y at *
    generalize readR a = ea at *
    generalize readR b = eb at *
    obtain ⟨x0, x1, x2, x3⟩ := x
    obtain ⟨y0, y1, y2, y3⟩ := y
    try simp only at *
    have HQ := Lib.hid (show ∀ w1 w2, _ → _ → _ ∧ _ ∧ _ ∧ _ from fun w1 w2 h1 h2 => (have q := HM.out w1 w2 h1 h2; And.intro (cells4 (q.at_ 0 rfl)) (And.intro (cells4 (q.at_ 1 rfl)) (And.intro (cells4 (q.at_ 2 rfl)) (free4 (q.at_ 2 rfl))))))
    unfold Mt.v Mt.cells Mt.zero at *
    go_enter Tryz.func71, Tryz.ntmps71
    go_wp2_with (first
     | (go_at_call 109; (with_reducible refine (HA _).out.mono ?_); rintro e1 w1 ⟨rfl, hb1⟩)
     | (go_at_call 109; (with_reducible refine (HB _).out.mono ?_); rintro e2 w2 ⟨rfl, hb2⟩; obtain ⟨⟨a0, a1, a2, a3⟩, ⟨c0, c1, c2, c3⟩, ⟨d0, d1, d2, d3⟩, g0, g1, g2, g3⟩ := HQ.out _ _ hb1 hb2))
    go_quiet (fail)
    go_wp2
    obtain ⟨q1, q2⟩ := (HD.out _ _ nq (HM.out _ _ hb1 hb2)).fill 2 rfl (.int .i64 x0) (.int .i64 x1) (.int .i64 x2) (.int .i64 x3)
    exact bodyPost_ret (rmeta_result rfl _ _ w.heap.size _ rfl q1 rfl) rfl ⟨rfl, q2⟩
  ·skip
   have pa : ((readM a).tx % 2 == 0) = false := by simp; omega
   have pat : ((readM a).tx.tmod 2 == 0) = false := by rw [Int.tmod_eq_emod_of_nonneg (by omega)]; simp; omega
   have par : (readM a).tx.tmod 2 = (readM a).tx % 2 := Int.tmod_eq_emod_of_nonneg (by omega)
   have sa : standM a 0 = Mt.zero := stand_no (fun k => h2 k.2)
   by_cases h3 : readR b = 0
   ·skip
    have eb : (readR b == 0) = true := by simp [h3]
    have ob := OB h3
    by_cases h4 : (readM b).tx % 2 = 1
    ·skip
     have pb : ((readM b).tx % 2 == 1) = true := by simp; omega
     have pbt : ((readM b).tx.tmod 2 == 1) = true := by rw [Int.tmod_eq_emod_of_nonneg (by omega)]; simp; omega
     have pbr : (readM b).tx.tmod 2 = (readM b).tx % 2 := Int.tmod_eq_emod_of_nonneg (by omega)
     have sb : standM b 1 = readM b := stand_yes h3 h4
     obtain ⟨e1, e2⟩ : chM a b = readM b ∧ chE a b = 0 := ch_y sb ob.1 (by rw [sa, Z0]; omega)
     rw [e1, e2]
     (try clear oa); (try clear ob); clear e1 e2 OA OB Z0 sa sb h1 h2 h3 h4
     generalize readM a = x at *
     generalize readM b = y at *
     generalize readR a = ea at *
     generalize readR b = eb at *
     obtain ⟨x0, x1, x2, x3⟩ := x
     obtain ⟨y0, y1, y2, y3⟩ := y
     try simp only at *
     have HQ := Lib.hid (show ∀ w1 w2, _ → _ → _ ∧ _ ∧ _ ∧ _ from fun w1 w2 h1 h2 => (have q := HM.out w1 w2 h1 h2; And.intro (cells4 (q.at_ 0 rfl)) (And.intro (cells4 (q.at_ 1 rfl)) (And.intro (cells4 (q.at_ 2 rfl)) (free4 (q.at_ 2 rfl))))))
     unfold Mt.v Mt.cells Mt.zero at *
     go_enter Tryz.func71, Tryz.ntmps71
     go_wp2_with (first
      | (go_at_call 109; (with_reducible refine (HA _).out.mono ?_); rintro e1 w1 ⟨rfl, hb1⟩)
      | (go_at_call 109; (with_reducible refine (HB _).out.mono ?_); rintro e2 w2 ⟨rfl, hb2⟩; obtain ⟨⟨a0, a1, a2, a3⟩, ⟨c0, c1, c2, c3⟩, ⟨d0, d1, d2, d3⟩, g0, g1, g2, g3⟩ := HQ.out _ _ hb1 hb2))
     go_quiet (fail)
     go_wp2
     obtain ⟨q1, q2⟩ := (HD.out _ _ nq (HM.out _ _ hb1 hb2)).fill 2 rfl (.int .i64 y0) (.int .i64 y1) (.int .i64 y2) (.int .i64 y3)
     exact bodyPost_ret (rmeta_result rfl _ _ w.heap.size _ rfl q1 rfl) rfl ⟨rfl, q2⟩
    ·skip
     have pb : ((readM b).tx % 2 == 1) = false := by simp; omega
     have pbt : ((readM b).tx.tmod 2 == 1) = false := by rw [Int.tmod_eq_emod_of_nonneg (by omega)]; simp; omega
     have pbr : (readM b).tx.tmod 2 = (readM b).tx % 2 := Int.tmod_eq_emod_of_nonneg (by omega)
     have sb : standM b 1 = Mt.zero := stand_no (fun k => h4 k.2)
     obtain ⟨e1, e2⟩ : chM a b = Mt.zero ∧ chE a b = 25 := ch_none sa sb
     rw [e1, e2]
     (try clear oa); (try clear ob); clear e1 e2 OA OB Z0 sa sb h1 h2 h3 h4
     generalize readM a = x at *
     generalize readM b = y at *
     generalize readR a = ea at *
     generalize readR b = eb at *
     obtain ⟨x0, x1, x2, x3⟩ := x
     obtain ⟨y0, y1, y2, y3⟩ := y
     try simp only at *
     have HQ := Lib.hid (show ∀ w1 w2, _ → _ → _ ∧ _ ∧ _ ∧ _ from fun w1 w2 h1 h2 => (have q := HM.out w1 w2 h1 h2; And.intro (cells4 (q.at_ 0 rfl)) (And.intro (cells4 (q.at_ 1 rfl)) (And.intro (cells4 (q.at_ 2 rfl)) (free4 (q.at_ 2 rfl))))))
     unfold Mt.v Mt.cells Mt.zero at *
     go_enter Tryz.func71, Tryz.ntmps71
     go_wp2_with (first
      | (go_at_call 109; (with_reducible refine (HA _).out.mono ?_); rintro e1 w1 ⟨rfl, hb1⟩)
      | (go_at_call 109; (with_reducible refine (HB _).out.mono ?_); rintro e2 w2 ⟨rfl, hb2⟩; obtain ⟨⟨a0, a1, a2, a3⟩, ⟨c0, c1, c2, c3⟩, ⟨d0, d1, d2, d3⟩, g0, g1, g2, g3⟩ := HQ.out _ _ hb1 hb2))
     go_quiet (fail)
     go_wp2
     obtain ⟨q1, q2⟩ := (HD.out _ _ nq (HM.out _ _ hb1 hb2)).fill 2 rfl (.int .i64 0) (.int .i64 0) (.int .i64 0) (.int .i64 0)
     exact bodyPost_ret (rmeta_result rfl _ _ w.heap.size _ rfl q1 rfl) rfl ⟨rfl, q2⟩
   ·skip
    have eb : (readR b == 0) = false := by simp [h3]
    have sb : standM b 1 = Mt.zero := stand_no (fun k => h3 k.1)
    obtain ⟨e1, e2⟩ : chM a b = Mt.zero ∧ chE a b = 25 := ch_none sa sb
    rw [e1, e2]
    (try clear oa); (try clear ob); clear e1 e2 OA OB Z0 sa sb h1 h2 h3
    generalize readM a = x at *
    generalize readM b = y at *
    generalize readR a = ea at *
    generalize readR b = eb at *
    obtain ⟨x0, x1, x2, x3⟩ := x
    obtain ⟨y0, y1, y2, y3⟩ := y
    try simp only at *
    have HQ := Lib.hid (show ∀ w1 w2, _ → _ → _ ∧ _ ∧ _ ∧ _ from fun w1 w2 h1 h2 => (have q := HM.out w1 w2 h1 h2; And.intro (cells4 (q.at_ 0 rfl)) (And.intro (cells4 (q.at_ 1 rfl)) (And.intro (cells4 (q.at_ 2 rfl)) (free4 (q.at_ 2 rfl))))))
    unfold Mt.v Mt.cells Mt.zero at *
    go_enter Tryz.func71, Tryz.ntmps71
    go_wp2_with (first
     | (go_at_call 109; (with_reducible refine (HA _).out.mono ?_); rintro e1 w1 ⟨rfl, hb1⟩)
     | (go_at_call 109; (with_reducible refine (HB _).out.mono ?_); rintro e2 w2 ⟨rfl, hb2⟩; obtain ⟨⟨a0, a1, a2, a3⟩, ⟨c0, c1, c2, c3⟩, ⟨d0, d1, d2, d3⟩, g0, g1, g2, g3⟩ := HQ.out _ _ hb1 hb2))
    go_quiet (fail)
    go_wp2
    obtain ⟨q1, q2⟩ := (HD.out _ _ nq (HM.out _ _ hb1 hb2)).fill 2 rfl (.int .i64 0) (.int .i64 0) (.int .i64 0) (.int .i64 0)
    exact bodyPost_ret (rmeta_result rfl _ _ w.heap.size _ rfl q1 rfl) rfl ⟨rfl, q2⟩
 ·skip
  have ea : (readR a == 0) = false := by simp [h1]
  have sa : standM a 0 = Mt.zero := stand_no (fun k => h1 k.1)
  by_cases h2 : readR b = 0
  ·skip
   have eb : (readR b == 0) = true := by simp [h2]
   have ob := OB h2
   by_cases h3 : (readM b).tx % 2 = 1
   ·skip
    have pb : ((readM b).tx % 2 == 1) = true := by simp; omega
    have pbt : ((readM b).tx.tmod 2 == 1) = true := by rw [Int.tmod_eq_emod_of_nonneg (by omega)]; simp; omega
    have pbr : (readM b).tx.tmod 2 = (readM b).tx % 2 := Int.tmod_eq_emod_of_nonneg (by omega)
    have sb : standM b 1 = readM b := stand_yes h2 h3
    obtain ⟨e1, e2⟩ : chM a b = readM b ∧ chE a b = 0 := ch_y sb ob.1 (by rw [sa, Z0]; omega)
    rw [e1, e2]
    (try clear oa); (try clear ob); clear e1 e2 OA OB Z0 sa sb h1 h2 h3
    generalize readM a = x at *
    generalize readM b = y at *
    generalize readR a = ea at *
    generalize readR b = eb at *
    obtain ⟨x0, x1, x2, x3⟩ := x
    obtain ⟨y0, y1, y2, y3⟩ := y
    try simp only at *
    have HQ := Lib.hid (show ∀ w1 w2, _ → _ → _ ∧ _ ∧ _ ∧ _ from fun w1 w2 h1 h2 => (have q := HM.out w1 w2 h1 h2; And.intro (cells4 (q.at_ 0 rfl)) (And.intro (cells4 (q.at_ 1 rfl)) (And.intro (cells4 (q.at_ 2 rfl)) (free4 (q.at_ 2 rfl))))))
    unfold Mt.v Mt.cells Mt.zero at *
    go_enter Tryz.func71, Tryz.ntmps71
    go_wp2_with (first
     | (go_at_call 109; (with_reducible refine (HA _).out.mono ?_); rintro e1 w1 ⟨rfl, hb1⟩)
     | (go_at_call 109; (with_reducible refine (HB _).out.mono ?_); rintro e2 w2 ⟨rfl, hb2⟩; obtain ⟨⟨a0, a1, a2, a3⟩, ⟨c0, c1, c2, c3⟩, ⟨d0, d1, d2, d3⟩, g0, g1, g2, g3⟩ := HQ.out _ _ hb1 hb2))
    go_quiet (fail)
    go_wp2
    obtain ⟨q1, q2⟩ := (HD.out _ _ nq (HM.out _ _ hb1 hb2)).fill 2 rfl (.int .i64 y0) (.int .i64 y1) (.int .i64 y2) (.int .i64 y3)
    exact bodyPost_ret (rmeta_result rfl _ _ w.heap.size _ rfl q1 rfl) rfl ⟨rfl, q2⟩
   ·skip
    have pb : ((readM b).tx % 2 == 1) = false := by simp; omega
    have pbt : ((readM b).tx.tmod 2 == 1) = false := by rw [Int.tmod_eq_emod_of_nonneg (by omega)]; simp; omega
    have pbr : (readM b).tx.tmod 2 = (readM b).tx % 2 := Int.tmod_eq_emod_of_nonneg (by omega)
    have sb : standM b 1 = Mt.zero := stand_no (fun k => h3 k.2)
    obtain ⟨e1, e2⟩ : chM a b = Mt.zero ∧ chE a b = 25 := ch_none sa sb
    rw [e1, e2]
    (try clear oa); (try clear ob); clear e1 e2 OA OB Z0 sa sb h1 h2 h3
    generalize readM a = x at *
    generalize readM b = y at *
    generalize readR a = ea at *
    generalize readR b = eb at *
    obtain ⟨x0, x1, x2, x3⟩ := x
    obtain ⟨y0, y1, y2, y3⟩ := y
    try simp only at *
    have HQ := Lib.hid (show ∀ w1 w2, _ → _ → _ ∧ _ ∧ _ ∧ _ from fun w1 w2 h1 h2 => (have q := HM.out w1 w2 h1 h2; And.intro (cells4 (q.at_ 0 rfl)) (And.intro (cells4 (q.at_ 1 rfl)) (And.intro (cells4 (q.at_ 2 rfl)) (free4 (q.at_ 2 rfl))))))
    unfold Mt.v Mt.cells Mt.zero at *
    go_enter Tryz.func71, Tryz.ntmps71
    go_wp2_with (first
     | (go_at_call 109; (with_reducible refine (HA _).out.mono ?_); rintro e1 w1 ⟨rfl, hb1⟩)
     | (go_at_call 109; (with_reducible refine (HB _).out.mono ?_); rintro e2 w2 ⟨rfl, hb2⟩; obtain ⟨⟨a0, a1, a2, a3⟩, ⟨c0, c1, c2, c3⟩, ⟨d0, d1, d2, d3⟩, g0, g1, g2, g3⟩ := HQ.out _ _ hb1 hb2))
    go_quiet (fail)
    go_wp2
    obtain ⟨q1, q2⟩ := (HD.out _ _ nq (HM.out _ _ hb1 hb2)).fill 2 rfl (.int .i64 0) (.int .i64 0) (.int .i64 0) (.int .i64 0)
    exact bodyPost_ret (rmeta_result rfl _ _ w.heap.size _ rfl q1 rfl) rfl ⟨rfl, q2⟩
  ·skip
   have eb : (readR b == 0) = false := by simp [h2]
   have sb : standM b 1 = Mt.zero := stand_no (fun k => h2 k.1)
   obtain ⟨e1, e2⟩ : chM a b = Mt.zero ∧ chE a b = 25 := ch_none sa sb
   rw [e1, e2]
   (try clear oa); (try clear ob); clear e1 e2 OA OB Z0 sa sb h1 h2
   generalize readM a = x at *
   generalize readM b = y at *
   generalize readR a = ea at *
   generalize readR b = eb at *
   obtain ⟨x0, x1, x2, x3⟩ := x
   obtain ⟨y0, y1, y2, y3⟩ := y
   try simp only at *
   have HQ := Lib.hid (show ∀ w1 w2, _ → _ → _ ∧ _ ∧ _ ∧ _ from fun w1 w2 h1 h2 => (have q := HM.out w1 w2 h1 h2; And.intro (cells4 (q.at_ 0 rfl)) (And.intro (cells4 (q.at_ 1 rfl)) (And.intro (cells4 (q.at_ 2 rfl)) (free4 (q.at_ 2 rfl))))))
   unfold Mt.v Mt.cells Mt.zero at *
   go_enter Tryz.func71, Tryz.ntmps71
   go_wp2_with (first
    | (go_at_call 109; (with_reducible refine (HA _).out.mono ?_); rintro e1 w1 ⟨rfl, hb1⟩)
    | (go_at_call 109; (with_reducible refine (HB _).out.mono ?_); rintro e2 w2 ⟨rfl, hb2⟩; obtain ⟨⟨a0, a1, a2, a3⟩, ⟨c0, c1, c2, c3⟩, ⟨d0, d1, d2, d3⟩, g0, g1, g2, g3⟩ := HQ.out _ _ hb1 hb2))
   go_quiet (fail)
   go_wp2
   obtain ⟨q1, q2⟩ := (HD.out _ _ nq (HM.out _ _ hb1 hb2)).fill 2 rfl (.int .i64 0) (.int .i64 0) (.int .i64 0) (.int .i64 0)
   exact bodyPost_ret (rmeta_result rfl _ _ w.heap.size _ rfl q1 rfl) rfl ⟨rfl, q2⟩
end Go.Proofs.YtbkngnjkaledlaaGreat.P6
