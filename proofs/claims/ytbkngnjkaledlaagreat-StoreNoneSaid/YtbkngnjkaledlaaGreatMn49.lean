/-
  Texts of the proof of SaidNone8, side by side: Mt11.
-/
import Derived.Test.YtbkngnjkaledlaaGreatMn48
/-
  Package meta's Read, by contract.
-/
namespace Go.Proofs.YtbkngnjkaledlaaGreat.P6
open Go Go.RowKit Go.Lib Go.Proofs.YtbkngnjkaledlaaGreat.P0 Go.Proofs.YtbkngnjkaledlaaGreat.P2 Go.Proofs.YtbkngnjkaledlaaGreat.P5

/-- while a page's body is read: a Get in block g; the page in block p, the result in block r -/
structure GS (w0 : World) (r p g : Nat) (P : Pg) (w : World) (s : ByteArray) (bad : Int) : Prop where
  bks : Bks w0 [(p, P.cells, 47), (r, Mt.zero.cells, 41)] w
  get : GetAt w g s bad
  lo : w0.heap.size ≤ g
  np : p ≠ g
  nr : r ≠ g
theorem GS.int {w0 : World} {r p g : Nat} {P : Pg} {w : World} {s : ByteArray} {bad : Int} (h : GS w0 r p g P w s bad) :
    Calls Tryz.prog 138 #[.pointer (some ⟨g, 0, none⟩)] w fun e w' => e = .returned (.int .i64 (getNum 8 s bad).1) ∧ GS w0 r p g P w' (getNum 8 s bad).2.1 (getNum 8 s bad).2.2 := by
  refine (getInt_any w g s bad h.get).mono fun e w' ⟨a, c, d⟩ => ⟨a, h.bks.fr d h.lo ?_, c, h.lo, h.np, h.nr⟩
  intro x hx
  rcases List.mem_cons.1 hx with rfl | hx
  · exact ⟨h.np, (by decide : (47 : Nat) ≠ 5)⟩
  · rcases List.mem_cons.1 hx with rfl | hx
    · exact ⟨h.nr, (by decide : (41 : Nat) ≠ 5)⟩
    · exact (List.not_mem_nil hx).elim
theorem gs_from {w0 : World} {r p : Nat} {P : Pg} {w : World} (h : Bks w0 [(p, P.cells, 47), (r, Mt.zero.cells, 41)] w) (s : ByteArray) :
    Calls Tryz.prog 136 #[.string s] w fun e w' => ∃ g, e = .returned (.pointer (some ⟨g, 0, none⟩)) ∧ GS w0 r p g P w' s 0 := by
  refine (getFrom_any w s).mono fun e w' ⟨h1, h2, h3, _⟩ => ⟨w.heap.size, h1, h.over h3, h2, h.below.size, ?_, ?_⟩
  · exact Nat.ne_of_lt (lt_of_block (h.at_ 0 rfl))
  · exact Nat.ne_of_lt (lt_of_block (h.at_ 1 rfl))
/-- the result, and the page that was read -/
theorem bks_read (w : World) (P : Pg) (w1 : World) (hb : Below (w.alloc (.cells Mt.zero.cells 41)).heap.size (w.alloc (.cells Mt.zero.cells 41)) w1) :
    Bks w [(w1.heap.size, P.cells, 47), (w.heap.size, Mt.zero.cells, 41)] (w1.alloc (.cells P.cells 47)) := (((Bks.nil w).new Mt.zero.cells 41).over hb).new P.cells 47
theorem bks_got {w0 : World} {r p g : Nat} {P : Pg} {w : World} {s : ByteArray} {bad : Int} (h : GS w0 r p g P w s bad) (m : Mt) :
    Bks w0 [(w.heap.size, m.cells, 41), (p, P.cells, 47), (r, Mt.zero.cells, 41)] (w.alloc (.cells m.cells 41)) := h.bks.new _ _

theorem mread_err (w : World) (b : ByteArray) (h : readE b ≠ 0) :
    Calls Tryz.prog 140 #[.string b] w fun r w' => r = .returned (.tuple #[Mt.zero.v, .int .i64 (readE b)]) ∧ Below w.heap.size w w' := by
  have HR := fun W => Lib.hid (read_any W b)
  rw [page_zero h] at HR
  generalize readE b = e at *
  have k1 : (e != 0) = true := by simpa using h
  have HM := Lib.hid (fun w1 hb => bks_read w Pg.zero w1 hb)
  clear h
  unfold Pg.v Pg.cells Pg.zero Mt.v Mt.cells Mt.zero at *
  have HQ := Lib.hid (show ∀ w1, _ → _ ∧ _ from fun w1 hb => (have q := HM.out w1 hb; And.intro (cells4 (q.at_ 1 rfl)) (free4 (q.at_ 1 rfl))))
  go_enter Tryz.func140, Tryz.ntmps140
  go_wp2_with (go_at_call 67; (with_reducible refine (HR _).out.mono ?_); rintro e1 w1 ⟨rfl, hb1⟩; obtain ⟨⟨a0, a1, a2, a3⟩, f0, f1, f2, f3⟩ := HQ.out _ hb1)
  obtain ⟨q1, q2⟩ := (HM.out _ hb1).fill 1 rfl (.int .i64 0) (.int .i64 0) (.int .i64 0) (.int .i64 0)
  exact bodyPost_ret (meta_result rfl _ _ w.heap.size _ rfl q1 rfl) rfl ⟨rfl, q2⟩

set_option maxRecDepth 100000 in
set_option maxHeartbeats 4000000 in
theorem mread_bad (w : World) (b : ByteArray) (h : readE b = 0) (hn : ¬ (got (readP b).body).ok) :
    Calls Tryz.prog 140 #[.string b] w fun r w' => r = .returned (.tuple #[Mt.zero.v, .int .i64 6]) ∧ Below w.heap.size w w' := by
  have HR := fun W => Lib.hid (read_any W b)
  rw [h] at HR
  have HV := fun W => Lib.hid (mvalid_any W (got (readP b).body))
  rw [decide_eq_false hn] at HV
  clear hn
  have HM := Lib.hid (fun w1 hb => bks_read w (readP b) w1 hb)
  have HF := Lib.hid (fun (r p : Nat) (W : World) (s : ByteArray) (k : Bks w [(p, (readP b).cells, 47), (r, Mt.zero.cells, 41)] W) => gs_from k s)
  have G1 := Lib.hid (show ∀ r p g W, GS w r p g (readP b) W (readP b).body 0 → Calls Tryz.prog 138 #[.pointer (some ⟨g, 0, none⟩)] W fun e w' => e = .returned (.int .i64 (g1 (readP b).body).1) ∧ GS w r p g (readP b) w' (g1 (readP b).body).2.1 (g1 (readP b).body).2.2 from fun _ _ _ _ k => k.int)
  have G2 := Lib.hid (show ∀ r p g W, GS w r p g (readP b) W (g1 (readP b).body).2.1 (g1 (readP b).body).2.2 → Calls Tryz.prog 138 #[.pointer (some ⟨g, 0, none⟩)] W fun e w' => e = .returned (.int .i64 (g2 (readP b).body).1) ∧ GS w r p g (readP b) w' (g2 (readP b).body).2.1 (g2 (readP b).body).2.2 from fun _ _ _ _ k => k.int)
  have G3 := Lib.hid (show ∀ r p g W, GS w r p g (readP b) W (g2 (readP b).body).2.1 (g2 (readP b).body).2.2 → Calls Tryz.prog 138 #[.pointer (some ⟨g, 0, none⟩)] W fun e w' => e = .returned (.int .i64 (g3 (readP b).body).1) ∧ GS w r p g (readP b) w' (g3 (readP b).body).2.1 (g3 (readP b).body).2.2 from fun _ _ _ _ k => k.int)
  have G4 := Lib.hid (show ∀ r p g W, GS w r p g (readP b) W (g3 (readP b).body).2.1 (g3 (readP b).body).2.2 → Calls Tryz.prog 138 #[.pointer (some ⟨g, 0, none⟩)] W fun e w' => e = .returned (.int .i64 (g4 (readP b).body).1) ∧ ∃ s bad, GS w r p g (readP b) w' s bad from fun _ _ _ _ k => k.int.mono fun _ _ ⟨a, c⟩ => ⟨a, _, _, c⟩)
  have HN := Lib.hid (show ∀ r p g W s bad, GS w r p g (readP b) W s bad → Bks w [(W.heap.size, (got (readP b).body).cells, 41), (p, (readP b).cells, 47), (r, Mt.zero.cells, 41)] (W.alloc (.cells (got (readP b).body).cells 41)) from fun _ _ _ _ _ _ k => bks_got k _)
  have eG : got (readP b).body = ⟨(g1 (readP b).body).1, (g2 (readP b).body).1, (g3 (readP b).body).1, (g4 (readP b).body).1⟩ := rfl
  rw [eG] at HN HV
  clear h eG
  generalize readP b = P at *
  generalize (g1 P.body).1 = x1 at *
  generalize (g2 P.body).1 = x2 at *
  generalize (g3 P.body).1 = x3 at *
  generalize (g4 P.body).1 = x4 at *
  generalize (g1 P.body).2 = y1 at *
  generalize (g2 P.body).2 = y2 at *
  generalize (g3 P.body).2 = y3 at *
  obtain ⟨pk, pi, pt, pb⟩ := P
  have CE := Lib.hid (show ∀ mm p r W, Bks w [(mm, (Mt.mk x1 x2 x3 x4).cells, 41), (p, (Pg.mk pk pi pt pb).cells, 47), (r, Mt.zero.cells, 41)] W → (_ ∧ _ ∧ _ ∧ _) ∧ (_ ∧ _ ∧ _ ∧ _) from fun mm p r W k => ⟨cells4 (k.at_ 0 rfl), cells4 (k.at_ 1 rfl)⟩)
  have CR := Lib.hid (show ∀ mm p r W, Bks w [(mm, (Mt.mk x1 x2 x3 x4).cells, 41), (p, (Pg.mk pk pi pt pb).cells, 47), (r, Mt.zero.cells, 41)] W → (_ ∧ _ ∧ _ ∧ _) ∧ (_ ∧ _ ∧ _ ∧ _) from fun mm p r W k => ⟨cells4 (k.at_ 2 rfl), free4 (k.at_ 2 rfl)⟩)
  have DW := Lib.hid (show ∀ l W, Bks w l W → Bks w l W.drew from fun l W k => k.over ((Below.refl _ _).drew))
  have CP := Lib.hid (show ∀ p r W, Bks w [(p, (Pg.mk pk pi pt pb).cells, 47), (r, Mt.zero.cells, 41)] W → W.cell? ⟨p, 3, none⟩ = some (.string pb) from fun p r W k => (cells4 (k.at_ 0 rfl)).2.2.2)
  unfold Pg.v Pg.cells Mt.v Mt.cells Mt.zero at *
  go_enter Tryz.func140, Tryz.ntmps140
  go_wp2_with (first
    | (go_at_call 67; (with_reducible refine (HR _).out.mono ?_); rintro e1 w1 ⟨rfl, hb1⟩; have b1 := HM.out _ hb1; have a3 := CP.out _ _ _ b1)
    | (go_at_call 136; (with_reducible refine (HF.out _ _ _ _ b1).mono ?_); rintro e2 w2 ⟨g, rfl, b2⟩)
    | (go_at_call 138; (with_reducible refine (G1.out _ _ _ _ b2).mono ?_); rintro e3 w3 ⟨rfl, b3⟩)
    | (go_at_call 138; (with_reducible refine (G2.out _ _ _ _ b3).mono ?_); rintro e4 w4 ⟨rfl, b4⟩)
    | (go_at_call 138; (with_reducible refine (G3.out _ _ _ _ b4).mono ?_); rintro e5 w5 ⟨rfl, b5⟩)
    | (go_at_call 138; (with_reducible refine (G4.out _ _ _ _ b5).mono ?_); rintro e6 w6 ⟨rfl, s6, bad6, b6⟩; have b7 := HN.out _ _ _ _ _ _ b6; have b7d := DW.out _ _ b7; obtain ⟨⟨l0, l1, l2, l3⟩, n0, n1, n2, n3⟩ := CE.out _ _ _ _ b7; have l7d := CE.out _ _ _ _ b7d))
  go_region_with (first
      | (go_at_call 89; (with_reducible refine (HV _).out.mono ?_); rintro e7 w7 ⟨rfl, hb7⟩; have b8 := b7d.over hb7; have r8 := CR.out _ _ _ _ b8))
  all_goals
    obtain ⟨⟨c0, c1, c2, c3⟩, f0, f1, f2, f3⟩ := r8
    go_wp2
    obtain ⟨q1, q2⟩ := b8.fill 2 rfl (.int .i64 0) (.int .i64 0) (.int .i64 0) (.int .i64 0)
    exact bodyPost_ret (meta_result rfl _ _ w.heap.size _ rfl q1 rfl) rfl ⟨rfl, q2⟩

set_option maxRecDepth 100000 in
set_option maxHeartbeats 4000000 in
theorem mread_odd (w : World) (b : ByteArray) (h : readE b = 0) (hn : (got (readP b).body).ok) (hx : readP b ≠ (got (readP b).body).sheet) :
    Calls Tryz.prog 140 #[.string b] w fun r w' => r = .returned (.tuple #[Mt.zero.v, .int .i64 6]) ∧ Below w.heap.size w w' := by
  have HR := fun W => Lib.hid (read_any W b)
  rw [h] at HR
  have HV := fun W => Lib.hid (mvalid_any W (got (readP b).body))
  rw [decide_eq_true hn] at HV
  have HS := fun W => Lib.hid (sheet_any W _ hn)
  have E := fun W => page_neq W (readP b) (got (readP b).body).sheet
  rw [Pg.same_ne hx] at E
  clear hn hx
  have HM := Lib.hid (fun w1 hb => bks_read w (readP b) w1 hb)
  have HF := Lib.hid (fun (r p : Nat) (W : World) (s : ByteArray) (k : Bks w [(p, (readP b).cells, 47), (r, Mt.zero.cells, 41)] W) => gs_from k s)
  have G1 := Lib.hid (show ∀ r p g W, GS w r p g (readP b) W (readP b).body 0 → Calls Tryz.prog 138 #[.pointer (some ⟨g, 0, none⟩)] W fun e w' => e = .returned (.int .i64 (g1 (readP b).body).1) ∧ GS w r p g (readP b) w' (g1 (readP b).body).2.1 (g1 (readP b).body).2.2 from fun _ _ _ _ k => k.int)
  have G2 := Lib.hid (show ∀ r p g W, GS w r p g (readP b) W (g1 (readP b).body).2.1 (g1 (readP b).body).2.2 → Calls Tryz.prog 138 #[.pointer (some ⟨g, 0, none⟩)] W fun e w' => e = .returned (.int .i64 (g2 (readP b).body).1) ∧ GS w r p g (readP b) w' (g2 (readP b).body).2.1 (g2 (readP b).body).2.2 from fun _ _ _ _ k => k.int)
  have G3 := Lib.hid (show ∀ r p g W, GS w r p g (readP b) W (g2 (readP b).body).2.1 (g2 (readP b).body).2.2 → Calls Tryz.prog 138 #[.pointer (some ⟨g, 0, none⟩)] W fun e w' => e = .returned (.int .i64 (g3 (readP b).body).1) ∧ GS w r p g (readP b) w' (g3 (readP b).body).2.1 (g3 (readP b).body).2.2 from fun _ _ _ _ k => k.int)
  have G4 := Lib.hid (show ∀ r p g W, GS w r p g (readP b) W (g3 (readP b).body).2.1 (g3 (readP b).body).2.2 → Calls Tryz.prog 138 #[.pointer (some ⟨g, 0, none⟩)] W fun e w' => e = .returned (.int .i64 (g4 (readP b).body).1) ∧ ∃ s bad, GS w r p g (readP b) w' s bad from fun _ _ _ _ k => k.int.mono fun _ _ ⟨a, c⟩ => ⟨a, _, _, c⟩)
  have HN := Lib.hid (show ∀ r p g W s bad, GS w r p g (readP b) W s bad → Bks w [(W.heap.size, (got (readP b).body).cells, 41), (p, (readP b).cells, 47), (r, Mt.zero.cells, 41)] (W.alloc (.cells (got (readP b).body).cells 41)) from fun _ _ _ _ _ _ k => bks_got k _)
  have eG : got (readP b).body = ⟨(g1 (readP b).body).1, (g2 (readP b).body).1, (g3 (readP b).body).1, (g4 (readP b).body).1⟩ := rfl
  generalize (got (readP b).body).sheet = Q at *
  obtain ⟨qk, qi, qt, qb⟩ := Q
  rw [eG] at HN HV
  simp only [eG] at HS
  clear h eG
  generalize readP b = P at *
  generalize (g1 P.body).1 = x1 at *
  generalize (g2 P.body).1 = x2 at *
  generalize (g3 P.body).1 = x3 at *
  generalize (g4 P.body).1 = x4 at *
  generalize (g1 P.body).2 = y1 at *
  generalize (g2 P.body).2 = y2 at *
  generalize (g3 P.body).2 = y3 at *
  obtain ⟨pk, pi, pt, pb⟩ := P
  have CE := Lib.hid (show ∀ mm p r W, Bks w [(mm, (Mt.mk x1 x2 x3 x4).cells, 41), (p, (Pg.mk pk pi pt pb).cells, 47), (r, Mt.zero.cells, 41)] W → (_ ∧ _ ∧ _ ∧ _) ∧ (_ ∧ _ ∧ _ ∧ _) from fun mm p r W k => ⟨cells4 (k.at_ 0 rfl), cells4 (k.at_ 1 rfl)⟩)
  have CR := Lib.hid (show ∀ mm p r W, Bks w [(mm, (Mt.mk x1 x2 x3 x4).cells, 41), (p, (Pg.mk pk pi pt pb).cells, 47), (r, Mt.zero.cells, 41)] W → (_ ∧ _ ∧ _ ∧ _) ∧ (_ ∧ _ ∧ _ ∧ _) from fun mm p r W k => ⟨cells4 (k.at_ 2 rfl), free4 (k.at_ 2 rfl)⟩)
  have DW := Lib.hid (show ∀ l W, Bks w l W → Bks w l W.drew from fun l W k => k.over ((Below.refl _ _).drew))
  have CP := Lib.hid (show ∀ p r W, Bks w [(p, (Pg.mk pk pi pt pb).cells, 47), (r, Mt.zero.cells, 41)] W → W.cell? ⟨p, 3, none⟩ = some (.string pb) from fun p r W k => (cells4 (k.at_ 0 rfl)).2.2.2)
  unfold Pg.v Pg.cells Mt.v Mt.cells Mt.zero at *
  go_enter Tryz.func140, Tryz.ntmps140
  go_wp2_with (first
    | (go_at_call 67; (with_reducible refine (HR _).out.mono ?_); rintro e1 w1 ⟨rfl, hb1⟩; have b1 := HM.out _ hb1; have a3 := CP.out _ _ _ b1)
    | (go_at_call 136; (with_reducible refine (HF.out _ _ _ _ b1).mono ?_); rintro e2 w2 ⟨g, rfl, b2⟩)
    | (go_at_call 138; (with_reducible refine (G1.out _ _ _ _ b2).mono ?_); rintro e3 w3 ⟨rfl, b3⟩)
    | (go_at_call 138; (with_reducible refine (G2.out _ _ _ _ b3).mono ?_); rintro e4 w4 ⟨rfl, b4⟩)
    | (go_at_call 138; (with_reducible refine (G3.out _ _ _ _ b4).mono ?_); rintro e5 w5 ⟨rfl, b5⟩)
    | (go_at_call 138; (with_reducible refine (G4.out _ _ _ _ b5).mono ?_); rintro e6 w6 ⟨rfl, s6, bad6, b6⟩; have b7 := HN.out _ _ _ _ _ _ b6; have b7d := DW.out _ _ b7; obtain ⟨⟨l0, l1, l2, l3⟩, n0, n1, n2, n3⟩ := CE.out _ _ _ _ b7; have l7d := CE.out _ _ _ _ b7d))
  go_region_held3 (fun w' => (w'.cell? ⟨w6.heap.size, 0, none⟩ = some (.int .i64 x1) ∧ w'.cell? ⟨w6.heap.size, 1, none⟩ = some (.int .i64 x2) ∧ w'.cell? ⟨w6.heap.size, 2, none⟩ = some (.int .i64 x3) ∧ w'.cell? ⟨w6.heap.size, 3, none⟩ = some (.int .i64 x4)) ∧ (w'.cell? ⟨w1.heap.size, 0, none⟩ = some (.int .i64 pk) ∧ w'.cell? ⟨w1.heap.size, 1, none⟩ = some (.int .i64 pi) ∧ w'.cell? ⟨w1.heap.size, 2, none⟩ = some (.int .i64 pt) ∧ w'.cell? ⟨w1.heap.size, 3, none⟩ = some (.string pb))) (first | exact l7d | exact CE.out _ _ _ _ b7 | exact CE.out _ _ _ _ (by assumption))
    ((first
      | (go_at_call 89; (with_reducible refine (HV _).out.mono ?_); rintro e7 w7 ⟨rfl, hb7⟩; have b8 := b7d.over hb7)
      | (go_at_call 90; (with_reducible refine (HS _).out.mono ?_); rintro e8 w8 ⟨rfl, hb8⟩; have b9 := b8.over hb8; have r9 := CR.out _ _ _ _ b9)))
  all_goals
    obtain ⟨⟨c0, c1, c2, c3⟩, f0, f1, f2, f3⟩ := r9
    go_wp2
    obtain ⟨q1, q2⟩ := b9.fill 2 rfl (.int .i64 0) (.int .i64 0) (.int .i64 0) (.int .i64 0)
    exact bodyPost_ret (meta_result rfl _ _ w.heap.size _ rfl q1 rfl) rfl ⟨rfl, q2⟩

set_option maxRecDepth 100000 in
set_option maxHeartbeats 4000000 in
theorem mread_good (w : World) (b : ByteArray) (h : readE b = 0) (hn : (got (readP b).body).ok) (hx : readP b = (got (readP b).body).sheet) :
    Calls Tryz.prog 140 #[.string b] w fun r w' => r = .returned (.tuple #[(got (readP b).body).v, .int .i64 0]) ∧ Below w.heap.size w w' := by
  have HR := fun W => Lib.hid (read_any W b)
  rw [h] at HR
  have HV := fun W => Lib.hid (mvalid_any W (got (readP b).body))
  rw [decide_eq_true hn] at HV
  have HS := fun W => Lib.hid (sheet_any W _ hn)
  have E := fun W => page_neq W (readP b) (got (readP b).body).sheet
  rw [show (readP b).same (got (readP b).body).sheet = true from hx ▸ Pg.same_self _] at E
  clear hn hx
  have HM := Lib.hid (fun w1 hb => bks_read w (readP b) w1 hb)
  have HF := Lib.hid (fun (r p : Nat) (W : World) (s : ByteArray) (k : Bks w [(p, (readP b).cells, 47), (r, Mt.zero.cells, 41)] W) => gs_from k s)
  have G1 := Lib.hid (show ∀ r p g W, GS w r p g (readP b) W (readP b).body 0 → Calls Tryz.prog 138 #[.pointer (some ⟨g, 0, none⟩)] W fun e w' => e = .returned (.int .i64 (g1 (readP b).body).1) ∧ GS w r p g (readP b) w' (g1 (readP b).body).2.1 (g1 (readP b).body).2.2 from fun _ _ _ _ k => k.int)
  have G2 := Lib.hid (show ∀ r p g W, GS w r p g (readP b) W (g1 (readP b).body).2.1 (g1 (readP b).body).2.2 → Calls Tryz.prog 138 #[.pointer (some ⟨g, 0, none⟩)] W fun e w' => e = .returned (.int .i64 (g2 (readP b).body).1) ∧ GS w r p g (readP b) w' (g2 (readP b).body).2.1 (g2 (readP b).body).2.2 from fun _ _ _ _ k => k.int)
  have G3 := Lib.hid (show ∀ r p g W, GS w r p g (readP b) W (g2 (readP b).body).2.1 (g2 (readP b).body).2.2 → Calls Tryz.prog 138 #[.pointer (some ⟨g, 0, none⟩)] W fun e w' => e = .returned (.int .i64 (g3 (readP b).body).1) ∧ GS w r p g (readP b) w' (g3 (readP b).body).2.1 (g3 (readP b).body).2.2 from fun _ _ _ _ k => k.int)
  have G4 := Lib.hid (show ∀ r p g W, GS w r p g (readP b) W (g3 (readP b).body).2.1 (g3 (readP b).body).2.2 → Calls Tryz.prog 138 #[.pointer (some ⟨g, 0, none⟩)] W fun e w' => e = .returned (.int .i64 (g4 (readP b).body).1) ∧ ∃ s bad, GS w r p g (readP b) w' s bad from fun _ _ _ _ k => k.int.mono fun _ _ ⟨a, c⟩ => ⟨a, _, _, c⟩)
  have HN := Lib.hid (show ∀ r p g W s bad, GS w r p g (readP b) W s bad → Bks w [(W.heap.size, (got (readP b).body).cells, 41), (p, (readP b).cells, 47), (r, Mt.zero.cells, 41)] (W.alloc (.cells (got (readP b).body).cells 41)) from fun _ _ _ _ _ _ k => bks_got k _)
  have eG : got (readP b).body = ⟨(g1 (readP b).body).1, (g2 (readP b).body).1, (g3 (readP b).body).1, (g4 (readP b).body).1⟩ := rfl
  generalize (got (readP b).body).sheet = Q at *
  obtain ⟨qk, qi, qt, qb⟩ := Q
  rw [eG] at HN HV
  simp only [eG] at HS
  rw [eG]
  clear h eG
  generalize readP b = P at *
  generalize (g1 P.body).1 = x1 at *
  generalize (g2 P.body).1 = x2 at *
  generalize (g3 P.body).1 = x3 at *
  generalize (g4 P.body).1 = x4 at *
  generalize (g1 P.body).2 = y1 at *
  generalize (g2 P.body).2 = y2 at *
  generalize (g3 P.body).2 = y3 at *
  obtain ⟨pk, pi, pt, pb⟩ := P
  have CE := Lib.hid (show ∀ mm p r W, Bks w [(mm, (Mt.mk x1 x2 x3 x4).cells, 41), (p, (Pg.mk pk pi pt pb).cells, 47), (r, Mt.zero.cells, 41)] W → (_ ∧ _ ∧ _ ∧ _) ∧ (_ ∧ _ ∧ _ ∧ _) from fun mm p r W k => ⟨cells4 (k.at_ 0 rfl), cells4 (k.at_ 1 rfl)⟩)
  have CR := Lib.hid (show ∀ mm p r W, Bks w [(mm, (Mt.mk x1 x2 x3 x4).cells, 41), (p, (Pg.mk pk pi pt pb).cells, 47), (r, Mt.zero.cells, 41)] W → (_ ∧ _ ∧ _ ∧ _) ∧ (_ ∧ _ ∧ _ ∧ _) from fun mm p r W k => ⟨cells4 (k.at_ 2 rfl), free4 (k.at_ 2 rfl)⟩)
  have DW := Lib.hid (show ∀ l W, Bks w l W → Bks w l W.drew from fun l W k => k.over ((Below.refl _ _).drew))
  have CP := Lib.hid (show ∀ p r W, Bks w [(p, (Pg.mk pk pi pt pb).cells, 47), (r, Mt.zero.cells, 41)] W → W.cell? ⟨p, 3, none⟩ = some (.string pb) from fun p r W k => (cells4 (k.at_ 0 rfl)).2.2.2)
  unfold Pg.v Pg.cells Mt.v Mt.cells Mt.zero at *
  go_enter Tryz.func140, Tryz.ntmps140
  go_wp2_with (first
    | (go_at_call 67; (with_reducible refine (HR _).out.mono ?_); rintro e1 w1 ⟨rfl, hb1⟩; have b1 := HM.out _ hb1; have a3 := CP.out _ _ _ b1)
    | (go_at_call 136; (with_reducible refine (HF.out _ _ _ _ b1).mono ?_); rintro e2 w2 ⟨g, rfl, b2⟩)
    | (go_at_call 138; (with_reducible refine (G1.out _ _ _ _ b2).mono ?_); rintro e3 w3 ⟨rfl, b3⟩)
    | (go_at_call 138; (with_reducible refine (G2.out _ _ _ _ b3).mono ?_); rintro e4 w4 ⟨rfl, b4⟩)
    | (go_at_call 138; (with_reducible refine (G3.out _ _ _ _ b4).mono ?_); rintro e5 w5 ⟨rfl, b5⟩)
    | (go_at_call 138; (with_reducible refine (G4.out _ _ _ _ b5).mono ?_); rintro e6 w6 ⟨rfl, s6, bad6, b6⟩; have b7 := HN.out _ _ _ _ _ _ b6; have b7d := DW.out _ _ b7; obtain ⟨⟨l0, l1, l2, l3⟩, n0, n1, n2, n3⟩ := CE.out _ _ _ _ b7; have l7d := CE.out _ _ _ _ b7d))
  go_region_held3 (fun w' => (w'.cell? ⟨w6.heap.size, 0, none⟩ = some (.int .i64 x1) ∧ w'.cell? ⟨w6.heap.size, 1, none⟩ = some (.int .i64 x2) ∧ w'.cell? ⟨w6.heap.size, 2, none⟩ = some (.int .i64 x3) ∧ w'.cell? ⟨w6.heap.size, 3, none⟩ = some (.int .i64 x4)) ∧ (w'.cell? ⟨w1.heap.size, 0, none⟩ = some (.int .i64 pk) ∧ w'.cell? ⟨w1.heap.size, 1, none⟩ = some (.int .i64 pi) ∧ w'.cell? ⟨w1.heap.size, 2, none⟩ = some (.int .i64 pt) ∧ w'.cell? ⟨w1.heap.size, 3, none⟩ = some (.string pb))) (first | exact l7d | exact CE.out _ _ _ _ b7 | exact CE.out _ _ _ _ (by assumption))
    ((first
      | (go_at_call 89; (with_reducible refine (HV _).out.mono ?_); rintro e7 w7 ⟨rfl, hb7⟩; have b8 := b7d.over hb7)
      | (go_at_call 90; (with_reducible refine (HS _).out.mono ?_); rintro e8 w8 ⟨rfl, hb8⟩; have b9 := b8.over hb8; have r9 := CR.out _ _ _ _ b9)))
  all_goals
    obtain ⟨⟨c0, c1, c2, c3⟩, f0, f1, f2, f3⟩ := r9
    go_wp2
    obtain ⟨q1, q2⟩ := b9.fill 2 rfl (.int .i64 x1) (.int .i64 x2) (.int .i64 x3) (.int .i64 x4)
    exact bodyPost_ret (meta_result rfl _ _ w.heap.size _ rfl q1 rfl) rfl ⟨rfl, q2⟩

theorem mread_any (w : World) (b : ByteArray) :
    Calls Tryz.prog 140 #[.string b] w fun r w' => r = .returned (.tuple #[(readM b).v, .int .i64 (readR b)]) ∧ Below w.heap.size w w' := by
  unfold readM readR
  by_cases h : readE b = 0
  · by_cases hn : (got (readP b).body).ok
    · by_cases hx : readP b = (got (readP b).body).sheet
      · rw [if_pos ⟨h, hn, hx⟩, if_pos h, if_pos ⟨hn, hx⟩]; exact mread_good w b h hn hx
      · rw [if_neg (fun k => hx k.2.2), if_pos h, if_neg (fun k => hx k.2)]; exact mread_odd w b h hn hx
    · rw [if_neg (fun k => hn k.2.1), if_pos h, if_neg (fun k => hn k.1)]; exact mread_bad w b h hn
  · rw [if_neg (fun k => h k.1), if_neg h]; exact mread_err w b h

end Go.Proofs.YtbkngnjkaledlaaGreat.P6
