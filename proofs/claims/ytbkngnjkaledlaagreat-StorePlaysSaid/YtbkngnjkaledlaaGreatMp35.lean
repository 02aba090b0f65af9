/-
  Texts of the proof of SaidPlay8b.
-/
import Derived.Test.YtbkngnjkaledlaaGreatMp34
set_option maxHeartbeats 8000000
set_option maxRecDepth 100000
namespace Go.Proofs.YtbkngnjkaledlaaGreat.P6
open Go Go.RowKit Go.Lib P0 P2 P5
structure SSt (w0 : World) (a r b : Nat) (m : Mt) (w : World) (xs : List UInt8) : Prop where
 put : PutIs w b xs 0
 hm : w.heap[a]? = some (.cells m.cells 41 (0, 0))
 hr : w.heap[r]? = some (.cells Pg.zero.cells 47 (0, 0))
 na : a ≠ b
 nr : r ≠ b
 below : Below w0.heap.size w0 w
 lo : w0.heap.size ≤ b
 rlo : w0.heap.size ≤ r
theorem SSt.step {w0 : World} {a r b : Nat} {m : Mt} {w w' : World} {xs ys : List UInt8} (h : SSt w0 a r b m w xs) (k : PutOwn w' b ys 0) (f : Fr b w w') : SSt w0 a r b m w' ys :=
 ⟨.inl k, f.keeps a _ _ _ h.hm (by decide) h.na, f.keeps r _ _ _ h.hr (by decide) h.nr, h.na, h.nr, h.below.trans (f.below.mono h.lo), h.lo, h.rlo⟩
theorem SSt.drew {w0 : World} {a r b : Nat} {m : Mt} {w : World} {xs : List UInt8} (h : SSt w0 a r b m w xs) : SSt w0 a r b m w.drew xs :=
 ⟨h.put.below ((Below.refl _ _).drew), h.hm, h.hr, h.na, h.nr, thenBelow h.below ((Below.refl _ _).drew), h.lo, h.rlo⟩
theorem SSt.start (w : World) (m : Mt) : SSt w w.heap.size (w.heap.size + 1) (w.heap.size + 1 + 1) m (((w.alloc (.cells m.cells 41)).alloc (.cells Pg.zero.cells 47)).alloc (.cells #[.slice none 0 0, .pointer none, .int .i64 0] 169)) [] := by
 have s1 : (w.alloc (.cells m.cells 41)).heap.size = w.heap.size + 1 := by simp
 have s2 : ((w.alloc (.cells m.cells 41)).alloc (.cells Pg.zero.cells 47)).heap.size = w.heap.size + 1 + 1 := by simp
 have h1 := new_at w m.cells 41
 have h2 := new_at (w.alloc (.cells m.cells 41)) Pg.zero.cells 47
 have h3 := new_at ((w.alloc (.cells m.cells 41)).alloc (.cells Pg.zero.cells 47)) #[.slice none 0 0, .pointer none, .int .i64 0] 169
 rw [s1] at h2
 rw [s2] at h3
 refine ⟨.inr ⟨h3, rfl⟩, ?_, ?_, by omega, by omega, P0.grow (P0.grow (below_new w _) _) _, by omega, by omega⟩
 ·rw [Below.heap_alloc _ _ _ (by omega), Below.heap_alloc _ _ _ (by omega)]; exact h1
 ·rw [Below.heap_alloc _ _ _ (by omega)]; exact h2
def MCells (w : World) (a : Nat) (m : Mt) : Prop :=
 w.cell? ⟨a, 0, none⟩ = some (.int .i64 m.tx) ∧ w.cell? ⟨a, 1, none⟩ = some (.int .i64 m.root) ∧ w.cell? ⟨a, 2, none⟩ = some (.int .i64 m.free) ∧ w.cell? ⟨a, 3, none⟩ = some (.int .i64 m.pages)
theorem Mt.mcells {w : World} {a : Nat} {m : Mt} {t : TypeId} (h : w.heap[a]? = some (.cells m.cells t (0, 0))) : MCells w a m := cells4 h
def sg1 (tx : Nat) : List UInt8 := [] ++ low 8 tx
def sg2 (tx root : Nat) : List UInt8 := sg1 tx ++ low 8 root
def sg3 (tx root free : Nat) : List UInt8 := sg2 tx root ++ low 8 free
def sg4 (tx root free pages : Nat) : List UInt8 := sg3 tx root free ++ low 8 pages
theorem SSt.fin {w0 : World} {a r b : Nat} {m : Mt} {w : World} {xs : List UInt8} (h : SSt w0 a r b m w xs) (x0 x1 x2 x3 : Value) :
  (((((w.setCell ⟨r, 0, none⟩ x0).setCell ⟨r, 1, none⟩ x1).setCell ⟨r, 2, none⟩ x2).setCell ⟨r, 3, none⟩ x3).heap[r]? = some (.cells #[x0, x1, x2, x3] 47 (0, 0))) ∧ Below w0.heap.size w0 ((((w.setCell ⟨r, 0, none⟩ x0).setCell ⟨r, 1, none⟩ x1).setCell ⟨r, 2, none⟩ x2).setCell ⟨r, 3, none⟩ x3) :=
 ⟨set_at (set_at (set_at (set_at h.hr 0 x0) 1 x1) 2 x2) 3 x3, (((h.below.setCell h.rlo x0).setCell h.rlo x1).setCell h.rlo x2).setCell h.rlo x3⟩
theorem sheet_any (w : World) (m : Mt) (h : m.ok) :
  Calls Tryz.prog 90 #[m.v] w fun r w' => r = .returned m.sheet.v ∧ Below w.heap.size w w' := by
 have hr := m.ok_range h
 have st0 := SSt.start w m
 clear h
 obtain ⟨tx, root, free, pages⟩ := m
 simp only at hr
 obtain ⟨h1, h2, h3, h4, h5, h6, h7, h8⟩ := hr
 obtain ⟨tx, rfl⟩ := Int.eq_ofNat_of_zero_le (show 0 ≤ tx by omega)
 obtain ⟨root, rfl⟩ := Int.eq_ofNat_of_zero_le h3
 obtain ⟨free, rfl⟩ := Int.eq_ofNat_of_zero_le h5
 obtain ⟨pages, rfl⟩ := Int.eq_ofNat_of_zero_le (show 0 ≤ pages by omega)
 have L1 := Lib.hid (show ∀ b W, SSt w w.heap.size (w.heap.size + 1) b ⟨tx, root, free, pages⟩ W [] → Calls Tryz.prog 122 #[.pointer (some ⟨b, 0, none⟩), .int .i64 tx] W fun r w' => r = .returned (.pointer (some ⟨b, 0, none⟩)) ∧ SSt w w.heap.size (w.heap.size + 1) b ⟨tx, root, free, pages⟩ w' (sg1 tx) from
  fun b W hW => (putInt_ok W b _ tx (by omega) (by simp) hW.put).mono fun _ _ ⟨a, c, d⟩ => ⟨a, hW.step c d⟩)
 have L2 := Lib.hid (show ∀ b W, SSt w w.heap.size (w.heap.size + 1) b ⟨tx, root, free, pages⟩ W (sg1 tx) → Calls Tryz.prog 122 #[.pointer (some ⟨b, 0, none⟩), .int .i64 root] W fun r w' => r = .returned (.pointer (some ⟨b, 0, none⟩)) ∧ SSt w w.heap.size (w.heap.size + 1) b ⟨tx, root, free, pages⟩ w' (sg2 tx root) from
  fun b W hW => (putInt_ok W b _ root (by omega) (by simp [sg1, low_length]) hW.put).mono fun _ _ ⟨a, c, d⟩ => ⟨a, hW.step c d⟩)
 have L3 := Lib.hid (show ∀ b W, SSt w w.heap.size (w.heap.size + 1) b ⟨tx, root, free, pages⟩ W (sg2 tx root) → Calls Tryz.prog 122 #[.pointer (some ⟨b, 0, none⟩), .int .i64 free] W fun r w' => r = .returned (.pointer (some ⟨b, 0, none⟩)) ∧ SSt w w.heap.size (w.heap.size + 1) b ⟨tx, root, free, pages⟩ w' (sg3 tx root free) from
  fun b W hW => (putInt_ok W b _ free (by omega) (by simp [sg2, sg1, low_length]) hW.put).mono fun _ _ ⟨a, c, d⟩ => ⟨a, hW.step c d⟩)
 have L4 := Lib.hid (show ∀ b W, SSt w w.heap.size (w.heap.size + 1) b ⟨tx, root, free, pages⟩ W (sg3 tx root free) → Calls Tryz.prog 122 #[.pointer (some ⟨b, 0, none⟩), .int .i64 pages] W fun r w' => r = .returned (.pointer (some ⟨b, 0, none⟩)) ∧ SSt w w.heap.size (w.heap.size + 1) b ⟨tx, root, free, pages⟩ w' (sg4 tx root free pages) from
  fun b W hW => (putInt_ok W b _ pages (by omega) (by simp [sg3, sg2, sg1, low_length]) hW.put).mono fun _ _ ⟨a, c, d⟩ => ⟨a, hW.step c d⟩)
 have eF : (⟨(sg4 tx root free pages).toArray⟩ : ByteArray) = str (Mt.mk tx root free pages).bytes := by
  show str _ = _
  simp only [sg4, sg3, sg2, sg1, Mt.bytes, Int.toNat_natCast, List.nil_append, List.append_assoc]
 have L9 := Lib.hid (show ∀ b W, SSt w w.heap.size (w.heap.size + 1) b ⟨tx, root, free, pages⟩ W (sg4 tx root free pages) → Calls Tryz.prog 124 #[.pointer (some ⟨b, 0, none⟩)] W fun r w' => r = .returned (.tuple #[.string (str (Mt.mk tx root free pages).bytes), .int .i64 0]) ∧ SSt w w.heap.size (w.heap.size + 1) b ⟨tx, root, free, pages⟩ w' (sg4 tx root free pages) from
  fun b W hW => by
   have H := putEnd_ok W b _ hW.put
   rw [eF] at H
   exact H.mono fun _ _ ⟨a, d⟩ => ⟨a, d ▸ hW⟩)
 have LS := Lib.hid (show ∀ b W, SSt w w.heap.size (w.heap.size + 1) b ⟨tx, root, free, pages⟩ W (sg4 tx root free pages) → Calls Tryz.prog 42 #[.int .i64 tx] W fun r w' => r = .returned (.int .i64 ((tx : Int) % 2)) ∧ SSt w w.heap.size (w.heap.size + 1) b ⟨tx, root, free, pages⟩ w' (sg4 tx root free pages) from
  fun b W hW => (slot_any W tx (by omega) (by omega)).mono fun _ _ ⟨a, d⟩ => ⟨a, d ▸ hW⟩)
 have CE := Lib.hid (show ∀ b W xs, SSt w w.heap.size (w.heap.size + 1) b ⟨tx, root, free, pages⟩ W xs → MCells W w.heap.size ⟨tx, root, free, pages⟩ from fun b W xs hW => Mt.mcells hW.hm)
 have SX := Lib.hid (show ∀ b W xs x0 x1 x2 x3, SSt w w.heap.size (w.heap.size + 1) b ⟨tx, root, free, pages⟩ W xs → ((((W.setCell ⟨w.heap.size + 1, 0, none⟩ x0).setCell ⟨w.heap.size + 1, 1, none⟩ x1).setCell ⟨w.heap.size + 1, 2, none⟩ x2).setCell ⟨w.heap.size + 1, 3, none⟩ x3).cell? ⟨w.heap.size, 0, none⟩ = some (.int .i64 tx) from fun b W xs x0 x1 x2 x3 hW => by
  have e : ((((W.setCell ⟨w.heap.size + 1, 0, none⟩ x0).setCell ⟨w.heap.size + 1, 1, none⟩ x1).setCell ⟨w.heap.size + 1, 2, none⟩ x2).setCell ⟨w.heap.size + 1, 3, none⟩ x3).heap[w.heap.size]? = some (.cells (Mt.mk tx root free pages).cells 41 (0, 0)) := by
   rw [Below.heap_setCell _ _ _ _ (by simp), Below.heap_setCell _ _ _ _ (by simp), Below.heap_setCell _ _ _ _ (by simp), Below.heap_setCell _ _ _ _ (by simp)]; exact hW.hm
  exact (Mt.mcells e).1)
 have PE := Lib.hid (show ∀ b W xs, SSt w w.heap.size (w.heap.size + 1) b ⟨tx, root, free, pages⟩ W xs → _ ∧ _ ∧ _ from fun b W xs hW => ⟨(Mt.mcells hW.hm).1, cells4 hW.hr, free4 hW.hr⟩)
 have HV : Hid ((Mt.mk (tx : Int) root free pages).sheet.v = .agg #[.int .i64 1, .int .i64 ((tx : Int) % 2), .int .i64 tx, .string (str (Mt.mk tx root free pages).bytes)]) := rfl
 rw [HV.out]
 generalize str (Mt.mk (tx : Int) root free pages).bytes = B at *
 clear eF h1 h2 h3 h4 h5 h6 h7 h8 HV
 unfold Mt.v Mt.cells Pg.cells Pg.zero at *
 unfold MCells at CE
 have st0d := st0.drew
 have q0 := CE.out _ _ _ st0
 have q0d := CE.out _ _ _ st0d
 go_enter Tryz.func90, Tryz.ntmps90
 go_wp2_with fail
 go_region_held3 (fun w' => w'.cell? ⟨w.heap.size, 0, none⟩ = some (.int .i64 tx) ∧ w'.cell? ⟨w.heap.size, 1, none⟩ = some (.int .i64 root) ∧ w'.cell? ⟨w.heap.size, 2, none⟩ = some (.int .i64 free) ∧ w'.cell? ⟨w.heap.size, 3, none⟩ = some (.int .i64 pages)) (first | exact q0 | exact q0d | exact CE.out _ _ _ (by assumption))
  ((first
   | (go_at_call 122; (with_reducible refine (L1.out _ _ (by assumption)).mono ?_); rintro e w2 ⟨rfl, st1⟩)
   | (go_at_call 122; (with_reducible refine (L2.out _ _ (by assumption)).mono ?_); rintro e w2 ⟨rfl, st1⟩)
   | (go_at_call 122; (with_reducible refine (L3.out _ _ (by assumption)).mono ?_); rintro e w2 ⟨rfl, st1⟩)
   | (go_at_call 122; (with_reducible refine (L4.out _ _ (by assumption)).mono ?_); rintro e w2 ⟨rfl, st1⟩)))
 all_goals
  go_wp2_with (go_at_call 124; (with_reducible refine (L9.out _ _ (by assumption)).mono ?_); rintro e w4 ⟨rfl, st2⟩; have st2d := st2.drew; have k0 := PE.out _ _ _ st2; have k0d := PE.out _ _ _ st2d)
  obtain ⟨k00, ⟨k1, k2, k3, k4⟩, k5, k6, k7, k8⟩ := k0
  go_region_held3 (fun w' => w'.cell? ⟨w.heap.size, 0, none⟩ = some (.int .i64 tx)) (first | exact k00 | exact k0d.1 | exact (PE.out _ _ _ (by assumption)).1 | exact SX.out _ _ _ _ _ _ _ (by assumption))
   ((first | (go_at_call 42; (with_reducible refine (LS.out _ _ (by assumption)).mono ?_); rintro e w5 ⟨rfl, st3⟩; have k9 := PE.out _ _ _ st3)))
  obtain ⟨e1, e2⟩ := SSt.fin st3 (.int .i64 1) (.int .i64 ((tx : Int) % 2)) (.int .i64 tx) (.string B)
  go_wp2
  exact bodyPost_ret (page_one rfl _ _ (w.heap.size + 1) _ rfl e1 rfl) rfl ⟨rfl, e2⟩
def mlaidB (m : Mt) : ByteArray := if m.ok then m.sector else ⟨#[]⟩
def mlaidE (m : Mt) : Int := if m.ok then 0 else 1
theorem mlay_ok (w : World) (m : Mt) (h : m.ok) :
  Calls Tryz.prog 39 #[m.v] w fun r w' => r = .returned (.tuple #[.string m.sector, .int .i64 0]) ∧ Below w.heap.size w w' := by
 have HV := fun W => Lib.hid (mvalid_any W m)
 rw [decide_eq_true h] at HV
 have HS := fun W => Lib.hid (sheet_any W m h)
 have HL := fun W => Lib.hid (lay_ok W m.sheet (m.sheet_ok h))
 have HB := Lib.hid (below_new w (.cells m.cells 41))
 have HM := Lib.hid (fun w1 (hb : Below (w.alloc (.cells m.cells 41)).heap.size (w.alloc (.cells m.cells 41)) w1) => (show MCells w1 w.heap.size m from Mt.mcells (by rw [hb.block _ (by simp)]; exact new_at w _ _)))
 rw [show m.sheet.sector = m.sector from rfl] at HL
 generalize m.sheet.v = V at *
 generalize m.sector = S at *
 clear h
 unfold MCells at HM
 unfold Mt.v Mt.cells at *
 go_enter Tryz.func39, Tryz.ntmps39
 go_wp2_with (first
  | (go_at_call 89; (with_reducible refine (HV _).out.mono ?_); rintro e w1 ⟨rfl, hb1⟩; obtain ⟨a0, a1, a2, a3⟩ := HM.out _ hb1)
  | (go_at_call 90; (with_reducible refine (HS _).out.mono ?_); rintro e w2 ⟨rfl, hb2⟩)
  | (go_at_call 85; (with_reducible refine (HL _).out.mono ?_); rintro e w3 ⟨rfl, hb3⟩))
 go_ret2
 exact ⟨rfl, thenBelow (thenBelow (thenBelow HB.out hb1) hb2) hb3⟩
theorem mlay_bad (w : World) (m : Mt) (h : ¬ m.ok) :
  Calls Tryz.prog 39 #[m.v] w fun r w' => r = .returned (.tuple #[.string ⟨#[]⟩, .int .i64 1]) ∧ Below w.heap.size w w' := by
 have HV := fun W => Lib.hid (mvalid_any W m)
 rw [decide_eq_false h] at HV
 have HB := Lib.hid (below_new w (.cells m.cells 41))
 clear h
 unfold Mt.v Mt.cells at *
 go_enter Tryz.func39, Tryz.ntmps39
 go_wp2_with (go_at_call 89; (with_reducible refine (HV _).out.mono ?_); rintro e w1 ⟨rfl, hb1⟩)
 go_ret2
 exact ⟨rfl, thenBelow HB.out hb1⟩
theorem mlay_any (w : World) (m : Mt) :
  Calls Tryz.prog 39 #[m.v] w fun r w' => r = .returned (.tuple #[.string (mlaidB m), .int .i64 (mlaidE m)]) ∧ Below w.heap.size w w' := by
 unfold mlaidB mlaidE
 by_cases h : m.ok
 ·rw [if_pos h, if_pos h]; exact mlay_ok w m h
 ·rw [if_neg h, if_neg h]; exact mlay_bad w m h
structure GS (w0 : World) (r p g : Nat) (P : Pg) (w : World) (s : ByteArray) (bad : Int) : Prop where
 bks : Bks w0 [(p, P.cells, 47), (r, Mt.zero.cells, 41)] w
 get : GetAt w g s bad
 lo : w0.heap.size ≤ g
 np : p ≠ g
 nr : r ≠ g
theorem GS.int {w0 : World} {r p g : Nat} {P : Pg} {w : World} {s : ByteArray} {bad : Int} (h : GS w0 r p g P w s bad) :
  Calls Tryz.prog 138 #[.pointer (some ⟨g, 0, none⟩)] w fun e w' => e = .returned (.int .i64 (getNum 8 s bad).1) ∧ GS w0 r p g P w' (getNum 8 s bad).2.1 (getNum 8 s bad).2.2 := by
 refine (getInt_any w g s bad h.get).mono fun e w' ⟨a, c, d⟩ => ⟨a, h.bks.fr d h.lo ?_, c, h.lo, h.np, h.nr⟩
 intro x hx
 rcases List.mem_cons.1 hx with rfl | hx
 ·exact ⟨h.np, (by decide : (47 : Nat) ≠ 5)⟩
 ·rcases List.mem_cons.1 hx with rfl | hx
  ·exact ⟨h.nr, (by decide : (41 : Nat) ≠ 5)⟩
  ·exact (List.not_mem_nil hx).elim
theorem gs_from {w0 : World} {r p : Nat} {P : Pg} {w : World} (h : Bks w0 [(p, P.cells, 47), (r, Mt.zero.cells, 41)] w) (s : ByteArray) :
  Calls Tryz.prog 136 #[.string s] w fun e w' => ∃ g, e = .returned (.pointer (some ⟨g, 0, none⟩)) ∧ GS w0 r p g P w' s 0 := by
 refine (getFrom_any w s).mono fun e w' ⟨h1, h2, h3, _⟩ => ⟨w.heap.size, h1, h.over h3, h2, h.below.size, ?_, ?_⟩
 ·exact Nat.ne_of_lt (lt_of_block (h.at_ 0 rfl))
 ·exact Nat.ne_of_lt (lt_of_block (h.at_ 1 rfl))
theorem bks_read (w : World) (P : Pg) (w1 : World) (hb : Below (w.alloc (.cells Mt.zero.cells 41)).heap.size (w.alloc (.cells Mt.zero.cells 41)) w1) :
  Bks w [(w1.heap.size, P.cells, 47), (w.heap.size, Mt.zero.cells, 41)] (w1.alloc (.cells P.cells 47)) := (((Bks.nil w).new Mt.zero.cells 41).over hb).new P.cells 47
theorem bks_got {w0 : World} {r p g : Nat} {P : Pg} {w : World} {s : ByteArray} {bad : Int} (h : GS w0 r p g P w s bad) (m : Mt) :
  Bks w0 [(w.heap.size, m.cells, 41), (p, P.cells, 47), (r, Mt.zero.cells, 41)] (w.alloc (.cells m.cells 41)) := h.bks.new _ _
theorem mread_err (w : World) (b : ByteArray) (h : readE b ≠ 0) :
  Calls Tryz.prog 140 #[.string b] w fun r w' => r = .returned (.tuple #[Mt.zero.v, .int .i64 (readE b)]) ∧ Below w.heap.size w w' := by
 have HR := fun W => Lib.hid (read_any W b)
 rw [page_zero h] at HR
 generalize readE b = e at *
 have k1 : (e != 0) = true := by simpa using h
 have HM := Lib.hid (fun w1 hb => bks_read w Pg.zero w1 hb)
 clear h
 unfold Pg.v Pg.cells Pg.zero Mt.v Mt.cells Mt.zero at *
 have HQ := Lib.hid (show ∀ w1, _ → _ ∧ _ from fun w1 hb => (have q := HM.out w1 hb; And.intro (cells4 (q.at_ 1 rfl)) (free4 (q.at_ 1 rfl))))
 go_enter Tryz.func140, Tryz.ntmps140
 go_wp2_with (go_at_call 67; (with_reducible refine (HR _).out.mono ?_); rintro e1 w1 ⟨rfl, hb1⟩; obtain ⟨⟨a0, a1, a2, a3⟩, f0, f1, f2, f3⟩ := HQ.out _ hb1)
 obtain ⟨q1, q2⟩ := (HM.out _ hb1).fill 1 rfl (.int .i64 0) (.int .i64 0) (.int .i64 0) (.int .i64 0)
 exact bodyPost_ret (meta_result rfl _ _ w.heap.size _ rfl q1 rfl) rfl ⟨rfl, q2⟩
theorem mread_bad (w : World) (b : ByteArray) (h : readE b = 0) (hn : ¬ (got (readP b).body).ok) :
  Calls Tryz.prog 140 #[.string b] w fun r w' => r = .returned (.tuple #[Mt.zero.v, .int .i64 6]) ∧ Below w.heap.size w w' := by
 have HR := fun W => Lib.hid (read_any W b)
 rw [h] at HR
 have HV := fun W => Lib.hid (mvalid_any W (got (readP b).body))
 rw [decide_eq_false hn] at HV
 clear hn
 have HM := Lib.hid (fun w1 hb => bks_read w (readP b) w1 hb)
 have HF := Lib.hid (fun (r p : Nat) (W : World) (s : ByteArray) (k : Bks w [(p, (readP b).cells, 47), (r, Mt.zero.cells, 41)] W) => gs_from k s)
 have G1 := Lib.hid (show ∀ r p g W, GS w r p g (readP b) W (readP b).body 0 → Calls Tryz.prog 138 #[.pointer (some ⟨g, 0, none⟩)] W fun e w' => e = .returned (.int .i64 (g1 (readP b).body).1) ∧ GS w r p g (readP b) w' (g1 (readP b).body).2.1 (g1 (readP b).body).2.2 from fun _ _ _ _ k => k.int)
 have G2 := Lib.hid (show ∀ r p g W, GS w r p g (readP b) W (g1 (readP b).body).2.1 (g1 (readP b).body).2.2 → Calls Tryz.prog 138 #[.pointer (some ⟨g, 0, none⟩)] W fun e w' => e = .returned (.int .i64 (g2 (readP b).body).1) ∧ GS w r p g (readP b) w' (g2 (readP b).body).2.1 (g2 (readP b).body).2.2 from fun _ _ _ _ k => k.int)
 have G3 := Lib.hid (show ∀ r p g W, GS w r p g (readP b) W (g2 (readP b).body).2.1 (g2 (readP b).body).2.2 → Calls Tryz.prog 138 #[.pointer (some ⟨g, 0, none⟩)] W fun e w' => e = .returned (.int .i64 (g3 (readP b).body).1) ∧ GS w r p g (readP b) w' (g3 (readP b).body).2.1 (g3 (readP b).body).2.2 from fun _ _ _ _ k => k.int)
 have G4 := Lib.hid (show ∀ r p g W, GS w r p g (readP b) W (g3 (readP b).body).2.1 (g3 (readP b).body).2.2 → Calls Tryz.prog 138 #[.pointer (some ⟨g, 0, none⟩)] W fun e w' => e = .returned (.int .i64 (g4 (readP b).body).1) ∧ ∃ s bad, GS w r p g (readP b) w' s bad from fun _ _ _ _ k => k.int.mono fun _ _ ⟨a, c⟩ => ⟨a, _, _, c⟩)
 have HN := Lib.hid (show ∀ r p g W s bad, GS w r p g (readP b) W s bad → Bks w [(W.heap.size, (got (readP b).body).cells, 41), (p, (readP b).cells, 47), (r, Mt.zero.cells, 41)] (W.alloc (.cells (got (readP b).body).cells 41)) from fun _ _ _ _ _ _ k => bks_got k _)
 have eG : got (readP b).body = ⟨(g1 (readP b).body).1, (g2 (readP b).body).1, (g3 (readP b).body).1, (g4 (readP b).body).1⟩ := rfl
 rw [eG] at HN HV
 clear h eG
 generalize readP b = P at *
 generalize (g1 P.body).1 = x1 at *
 generalize (g2 P.body).1 = x2 at *
 generalize (g3 P.body).1 = x3 at *
 generalize (g4 P.body).1 = x4 at *
 generalize (g1 P.body).2 = y1 at *
 generalize (g2 P.body).2 = y2 at *
 generalize (g3 P.body).2 = y3 at *
 obtain ⟨pk, pi, pt, pb⟩ := P
 have CE := Lib.hid (show ∀ mm p r W, Bks w [(mm, (Mt.mk x1 x2 x3 x4).cells, 41), (p, (Pg.mk pk pi pt pb).cells, 47), (r, Mt.zero.cells, 41)] W → (_ ∧ _ ∧ _ ∧ _) ∧ (_ ∧ _ ∧ _ ∧ _) from fun mm p r W k => ⟨cells4 (k.at_ 0 rfl), cells4 (k.at_ 1 rfl)⟩)
 have CR := Lib.hid (show ∀ mm p r W, Bks w [(mm, (Mt.mk x1 x2 x3 x4).cells, 41), (p, (Pg.mk pk pi pt pb).cells, 47), (r, Mt.zero.cells, 41)] W → (_ ∧ _ ∧ _ ∧ _) ∧ (_ ∧ _ ∧ _ ∧ _) from fun mm p r W k => ⟨cells4 (k.at_ 2 rfl), free4 (k.at_ 2 rfl)⟩)
 have DW := Lib.hid (show ∀ l W, Bks w l W → Bks w l W.drew from fun l W k => k.over ((Below.refl _ _).drew))
 have CP := Lib.hid (show ∀ p r W, Bks w [(p, (Pg.mk pk pi pt pb).cells, 47), (r, Mt.zero.cells, 41)] W → W.cell? ⟨p, 3, none⟩ = some (.string pb) from fun p r W k => (cells4 (k.at_ 0 rfl)).2.2.2)
 unfold Pg.v Pg.cells Mt.v Mt.cells Mt.zero at *
 go_enter Tryz.func140, Tryz.ntmps140
 go_wp2_with (first
  | (go_at_call 67; (with_reducible refine (HR _).out.mono ?_); rintro e1 w1 ⟨rfl, hb1⟩; have b1 := HM.out _ hb1; have a3 := CP.out _ _ _ b1)
  | (go_at_call 136; (with_reducible refine (HF.out _ _ _ _ b1).mono ?_); rintro e2 w2 ⟨g, rfl, b2⟩)
  | (go_at_call 138; (with_reducible refine (G1.out _ _ _ _ b2).mono ?_); rintro e3 w3 ⟨rfl, b3⟩)
  | (go_at_call 138; (with_reducible refine (G2.out _ _ _ _ b3).mono ?_); rintro e4 w4 ⟨rfl, b4⟩)
  | (go_at_call 138; (with_reducible refine (G3.out _ _ _ _ b4).mono ?_); rintro e5 w5 ⟨rfl, b5⟩)
  | (go_at_call 138; (with_reducible refine (G4.out _ _ _ _ b5).mono ?_); rintro e6 w6 ⟨rfl, s6, bad6, b6⟩; have b7 := HN.out _ _ _ _ _ _ b6; have b7d := DW.out _ _ b7; obtain ⟨⟨l0, l1, l2, l3⟩, n0, n1, n2, n3⟩ := CE.out _ _ _ _ b7; have l7d := CE.out _ _ _ _ b7d))
 go_region_with (first
   | (go_at_call 89; (with_reducible refine (HV _).out.mono ?_); rintro e7 w7 ⟨rfl, hb7⟩; have b8 := b7d.over hb7; have r8 := CR.out _ _ _ _ b8))
 all_goals
  obtain ⟨⟨c0, c1, c2, c3⟩, f0, f1, f2, f3⟩ := r8
  go_wp2
  obtain ⟨q1, q2⟩ := b8.fill 2 rfl (.int .i64 0) (.int .i64 0) (.int .i64 0) (.int .i64 0)
  exact bodyPost_ret (meta_result rfl _ _ w.heap.size _ rfl q1 rfl) rfl ⟨rfl, q2⟩
theorem mread_odd (w : World) (b : ByteArray) (h : readE b = 0) (hn : (got (readP b).body).ok) (hx : readP b ≠ (got (readP b).body).sheet) :
  Calls Tryz.prog 140 #[.string b] w fun r w' => r = .returned (.tuple #[Mt.zero.v, .int .i64 6]) ∧ Below w.heap.size w w' := by
 have HR := fun W => Lib.hid (read_any W b)
 rw [h] at HR
 have HV := fun W => Lib.hid (mvalid_any W (got (readP b).body))
 rw [decide_eq_true hn] at HV
 have HS := fun W => Lib.hid (sheet_any W _ hn)
 have E := fun W => page_neq W (readP b) (got (readP b).body).sheet
 rw [Pg.same_ne hx] at E
 clear hn hx
 have HM := Lib.hid (fun w1 hb => bks_read w (readP b) w1 hb)
 have HF := Lib.hid (fun (r p : Nat) (W : World) (s : ByteArray) (k : Bks w [(p, (readP b).cells, 47), (r, Mt.zero.cells, 41)] W) => gs_from k s)
 have G1 := Lib.hid (show ∀ r p g W, GS w r p g (readP b) W (readP b).body 0 → Calls Tryz.prog 138 #[.pointer (some ⟨g, 0, none⟩)] W fun e w' => e = .returned (.int .i64 (g1 (readP b).body).1) ∧ GS w r p g (readP b) w' (g1 (readP b).body).2.1 (g1 (readP b).body).2.2 from fun _ _ _ _ k => k.int)
 have G2 := Lib.hid (show ∀ r p g W, GS w r p g (readP b) W (g1 (readP b).body).2.1 (g1 (readP b).body).2.2 → Calls Tryz.prog 138 #[.pointer (some ⟨g, 0, none⟩)] W fun e w' => e = .returned (.int .i64 (g2 (readP b).body).1) ∧ GS w r p g (readP b) w' (g2 (readP b).body).2.1 (g2 (readP b).body).2.2 from fun _ _ _ _ k => k.int)
 have G3 := Lib.hid (show ∀ r p g W, GS w r p g (readP b) W (g2 (readP b).body).2.1 (g2 (readP b).body).2.2 → Calls Tryz.prog 138 #[.pointer (some ⟨g, 0, none⟩)] W fun e w' => e = .returned (.int .i64 (g3 (readP b).body).1) ∧ GS w r p g (readP b) w' (g3 (readP b).body).2.1 (g3 (readP b).body).2.2 from fun _ _ _ _ k => k.int)
 have G4 := Lib.hid (show ∀ r p g W, GS w r p g (readP b) W (g3 (readP b).body).2.1 (g3 (readP b).body).2.2 → Calls Tryz.prog 138 #[.pointer (some ⟨g, 0, none⟩)] W fun e w' => e = .returned (.int .i64 (g4 (readP b).body).1) ∧ ∃ s bad, GS w r p g (readP b) w' s bad from fun _ _ _ _ k => k.int.mono fun _ _ ⟨a, c⟩ => ⟨a, _, _, c⟩)
 have HN := Lib.hid (show ∀ r p g W s bad, GS w r p g (readP b) W s bad → Bks w [(W.heap.size, (got (readP b).body).cells, 41), (p, (readP b).cells, 47), (r, Mt.zero.cells, 41)] (W.alloc (.cells (got (readP b).body).cells 41)) from fun _ _ _ _ _ _ k => bks_got k _)
 have eG : got (readP b).body = ⟨(g1 (readP b).body).1, (g2 (readP b).body).1, (g3 (readP b).body).1, (g4 (readP b).body).1⟩ := rfl
 generalize (got (readP b).body).sheet = Q at *
 obtain ⟨qk, qi, qt, qb⟩ := Q
 rw [eG] at HN HV
 simp only [eG] at HS
 clear h eG
 generalize readP b = P at *
 generalize (g1 P.body).1 = x1 at *
 generalize (g2 P.body).1 = x2 at *
 generalize (g3 P.body).1 = x3 at *
 generalize (g4 P.body).1 = x4 at *
 generalize (g1 P.body).2 = y1 at *
 generalize (g2 P.body).2 = y2 at *
 generalize (g3 P.body).2 = y3 at *
 obtain ⟨pk, pi, pt, pb⟩ := P
 have CE := Lib.hid (show ∀ mm p r W, Bks w [(mm, (Mt.mk x1 x2 x3 x4).cells, 41), (p, (Pg.mk pk pi pt pb).cells, 47), (r, Mt.zero.cells, 41)] W → (_ ∧ _ ∧ _ ∧ _) ∧ (_ ∧ _ ∧ _ ∧ _) from fun mm p r W k => ⟨cells4 (k.at_ 0 rfl), cells4 (k.at_ 1 rfl)⟩)
 have CR := Lib.hid (show ∀ mm p r W, Bks w [(mm, (Mt.mk x1 x2 x3 x4).cells, 41), (p, (Pg.mk pk pi pt pb).cells, 47), (r, Mt.zero.cells, 41)] W → (_ ∧ _ ∧ _ ∧ _) ∧ (_ ∧ _ ∧ _ ∧ _) from fun mm p r W k => ⟨cells4 (k.at_ 2 rfl), free4 (k.at_ 2 rfl)⟩)
 have DW := Lib.hid (show ∀ l W, Bks w l W → Bks w l W.drew from fun l W k => k.over ((Below.refl _ _).drew))
 have CP := Lib.hid (show ∀ p r W, Bks w [(p, (Pg.mk pk pi pt pb).cells, 47), (r, Mt.zero.cells, 41)] W → W.cell? ⟨p, 3, none⟩ = some (.string pb) from fun p r W k => (cells4 (k.at_ 0 rfl)).2.2.2)
 unfold Pg.v Pg.cells Mt.v Mt.cells Mt.zero at *
 go_enter Tryz.func140, Tryz.ntmps140
 go_wp2_with (first
  | (go_at_call 67; (with_reducible refine (HR _).out.mono ?_); rintro e1 w1 ⟨rfl, hb1⟩; have b1 := HM.out _ hb1; have a3 := CP.out _ _ _ b1)
  | (go_at_call 136; (with_reducible refine (HF.out _ _ _ _ b1).mono ?_); rintro e2 w2 ⟨g, rfl, b2⟩)
  | (go_at_call 138; (with_reducible refine (G1.out _ _ _ _ b2).mono ?_); rintro e3 w3 ⟨rfl, b3⟩)
  | (go_at_call 138; (with_reducible refine (G2.out _ _ _ _ b3).mono ?_); rintro e4 w4 ⟨rfl, b4⟩)
  | (go_at_call 138; (with_reducible refine (G3.out _ _ _ _ b4).mono ?_); rintro e5 w5 ⟨rfl, b5⟩)
  | (go_at_call 138; (with_reducible refine (G4.out _ _ _ _ b5).mono ?_); rintro e6 w6 ⟨rfl, s6, bad6, b6⟩; have b7 := HN.out _ _ _ _ _ _ b6; have b7d := DW.out _ _ b7; obtain ⟨⟨l0, l1, l2, l3⟩, n0, n1, n2, n3⟩ := CE.out _ _ _ _ b7; have l7d := CE.out _ _ _ _ b7d))
 go_region_held3 (fun w' => (w'.cell? ⟨w6.heap.size, 0, none⟩ = some (.int .i64 x1) ∧ w'.cell? ⟨w6.heap.size, 1, none⟩ = some (.int .i64 x2) ∧ w'.cell? ⟨w6.heap.size, 2, none⟩ = some (.int .i64 x3) ∧ w'.cell? ⟨w6.heap.size, 3, none⟩ = some (.int .i64 x4)) ∧ (w'.cell? ⟨w1.heap.size, 0, none⟩ = some (.int .i64 pk) ∧ w'.cell? ⟨w1.heap.size, 1, none⟩ = some (.int .i64 pi) ∧ w'.cell? ⟨w1.heap.size, 2, none⟩ = some (.int .i64 pt) ∧ w'.cell? ⟨w1.heap.size, 3, none⟩ = some (.string pb))) (first | exact l7d | exact CE.out _ _ _ _ b7 | exact CE.out _ _ _ _ (by assumption))
  ((first
   | (go_at_call 89; (with_reducible refine (HV _).out.mono ?_); rintro e7 w7 ⟨rfl, hb7⟩; have b8 := b7d.over hb7)
   | (go_at_call 90; (with_reducible refine (HS _).out.mono ?_); rintro e8 w8 ⟨rfl, hb8⟩; have b9 := b8.over hb8; have r9 := CR.out _ _ _ _ b9)))
 all_goals
  obtain ⟨⟨c0, c1, c2, c3⟩, f0, f1, f2, f3⟩ := r9
  go_wp2
  obtain ⟨q1, q2⟩ := b9.fill 2 rfl (.int .i64 0) (.int .i64 0) (.int .i64 0) (.int .i64 0)
  exact bodyPost_ret (meta_result rfl _ _ w.heap.size _ rfl q1 rfl) rfl ⟨rfl, q2⟩
theorem mread_good (w : World) (b : ByteArray) (h : readE b = 0) (hn : (got (readP b).body).ok) (hx : readP b = (got (readP b).body).sheet) :
  Calls Tryz.prog 140 #[.string b] w fun r w' => r = .returned (.tuple #[(got (readP b).body).v, .int .i64 0]) ∧ Below w.heap.size w w' := by
 have HR := fun W => Lib.hid (read_any W b)
 rw [h] at HR
 have HV := fun W => Lib.hid (mvalid_any W (got (readP b).body))
 rw [decide_eq_true hn] at HV
 have HS := fun W => Lib.hid (sheet_any W _ hn)
 have E := fun W => page_neq W (readP b) (got (readP b).body).sheet
 rw [show (readP b).same (got (readP b).body).sheet = true from hx ▸ Pg.same_self _] at E
 clear hn hx
 have HM := Lib.hid (fun w1 hb => bks_read w (readP b) w1 hb)
 have HF := Lib.hid (fun (r p : Nat) (W : World) (s : ByteArray) (k : Bks w [(p, (readP b).cells, 47), (r, Mt.zero.cells, 41)] W) => gs_from k s)
 have G1 := Lib.hid (show ∀ r p g W, GS w r p g (readP b) W (readP b).body 0 → Calls Tryz.prog 138 #[.pointer (some ⟨g, 0, none⟩)] W fun e w' => e = .returned (.int .i64 (g1 (readP b).body).1) ∧ GS w r p g (readP b) w' (g1 (readP b).body).2.1 (g1 (readP b).body).2.2 from fun _ _ _ _ k => k.int)
 have G2 := Lib.hid (show ∀ r p g W, GS w r p g (readP b) W (g1 (readP b).body).2.1 (g1 (readP b).body).2.2 → Calls Tryz.prog 138 #[.pointer (some ⟨g, 0, none⟩)] W fun e w' => e = .returned (.int .i64 (g2 (readP b).body).1) ∧ GS w r p g (readP b) w' (g2 (readP b).body).2.1 (g2 (readP b).body).2.2 from fun _ _ _ _ k => k.int)
 have G3 := Lib.hid (show ∀ r p g W, GS w r p g (readP b) W (g2 (readP b).body).2.1 (g2 (readP b).body).2.2 → Calls Tryz.prog 138 #[.pointer (some ⟨g, 0, none⟩)] W fun e w' => e = .returned (.int .i64 (g3 (readP b).body).1) ∧ GS w r p g (readP b) w' (g3 (readP b).body).2.1 (g3 (readP b).body).2.2 from fun _ _ _ _ k => k.int)
 have G4 := Lib.hid (show ∀ r p g W, GS w r p g (readP b) W (g3 (readP b).body).2.1 (g3 (readP b).body).2.2 → Calls Tryz.prog 138 #[.pointer (some ⟨g, 0, none⟩)] W fun e w' => e = .returned (.int .i64 (g4 (readP b).body).1) ∧ ∃ s bad, GS w r p g (readP b) w' s bad from fun _ _ _ _ k => k.int.mono fun _ _ ⟨a, c⟩ => ⟨a, _, _, c⟩)
 have HN := Lib.hid (show ∀ r p g W s bad, GS w r p g (readP b) W s bad → Bks w [(W.heap.size, (got (readP b).body).cells, 41), (p, (readP b).cells, 47), (r, Mt.zero.cells, 41)] (W.alloc (.cells (got (readP b).body).cells 41)) from fun _ _ _ _ _ _ k => bks_got k _)
 have eG : got (readP b).body = ⟨(g1 (readP b).body).1, (g2 (readP b).body).1, (g3 (readP b).body).1, (g4 (readP b).body).1⟩ := rfl
 generalize (got (readP b).body).sheet = Q at *
 obtain ⟨qk, qi, qt, qb⟩ := Q
 rw [eG] at HN HV
 simp only [eG] at HS
 rw [eG]
 clear h eG
 generalize readP b = P at *
 generalize (g1 P.body).1 = x1 at *
 generalize (g2 P.body).1 = x2 at *
 generalize (g3 P.body).1 = x3 at *
 generalize (g4 P.body).1 = x4 at *
 generalize (g1 P.body).2 = y1 at *
 generalize (g2 P.body).2 = y2 at *
 generalize (g3 P.body).2 = y3 at *
 obtain ⟨pk, pi, pt, pb⟩ := P
 have CE := Lib.hid (show ∀ mm p r W, Bks w [(mm, (Mt.mk x1 x2 x3 x4).cells, 41), (p, (Pg.mk pk pi pt pb).cells, 47), (r, Mt.zero.cells, 41)] W → (_ ∧ _ ∧ _ ∧ _) ∧ (_ ∧ _ ∧ _ ∧ _) from fun mm p r W k => ⟨cells4 (k.at_ 0 rfl), cells4 (k.at_ 1 rfl)⟩)
 have CR := Lib.hid (show ∀ mm p r W, Bks w [(mm, (Mt.mk x1 x2 x3 x4).cells, 41), (p, (Pg.mk pk pi pt pb).cells, 47), (r, Mt.zero.cells, 41)] W → (_ ∧ _ ∧ _ ∧ _) ∧ (_ ∧ _ ∧ _ ∧ _) from fun mm p r W k => ⟨cells4 (k.at_ 2 rfl), free4 (k.at_ 2 rfl)⟩)
 have DW := Lib.hid (show ∀ l W, Bks w l W → Bks w l W.drew from fun l W k => k.over ((Below.refl _ _).drew))
 have CP := Lib.hid (show ∀ p r W, Bks w [(p, (Pg.mk pk pi pt pb).cells, 47), (r, Mt.zero.cells, 41)] W → W.cell? ⟨p, 3, none⟩ = some (.string pb) from fun p r W k => (cells4 (k.at_ 0 rfl)).2.2.2)
 unfold Pg.v Pg.cells Mt.v Mt.cells Mt.zero at *
 go_enter Tryz.func140, Tryz.ntmps140
 go_wp2_with (first
  | (go_at_call 67; (with_reducible refine (HR _).out.mono ?_); rintro e1 w1 ⟨rfl, hb1⟩; have b1 := HM.out _ hb1; have a3 := CP.out _ _ _ b1)
  | (go_at_call 136; (with_reducible refine (HF.out _ _ _ _ b1).mono ?_); rintro e2 w2 ⟨g, rfl, b2⟩)
  | (go_at_call 138; (with_reducible refine (G1.out _ _ _ _ b2).mono ?_); rintro e3 w3 ⟨rfl, b3⟩)
  | (go_at_call 138; (with_reducible refine (G2.out _ _ _ _ b3).mono ?_); rintro e4 w4 ⟨rfl, b4⟩)
  | (go_at_call 138; (with_reducible refine (G3.out _ _ _ _ b4).mono ?_); rintro e5 w5 ⟨rfl, b5⟩)
  | (go_at_call 138; (with_reducible refine (G4.out _ _ _ _ b5).mono ?_); rintro e6 w6 ⟨rfl, s6, bad6, b6⟩; have b7 := HN.out _ _ _ _ _ _ b6; have b7d := DW.out _ _ b7; obtain ⟨⟨l0, l1, l2, l3⟩, n0, n1, n2, n3⟩ := CE.out _ _ _ _ b7; have l7d := CE.out _ _ _ _ b7d))
 go_region_held3 (fun w' => (w'.cell? ⟨w6.heap.size, 0, none⟩ = some (.int .i64 x1) ∧ w'.cell? ⟨w6.heap.size, 1, none⟩ = some (.int .i64 x2) ∧ w'.cell? ⟨w6.heap.size, 2, none⟩ = some (.int .i64 x3) ∧ w'.cell? ⟨w6.heap.size, 3, none⟩ = some (.int .i64 x4)) ∧ (w'.cell? ⟨w1.heap.size, 0, none⟩ = some (.int .i64 pk) ∧ w'.cell? ⟨w1.heap.size, 1, none⟩ = some (.int .i64 pi) ∧ w'.cell? ⟨w1.heap.size, 2, none⟩ = some (.int .i64 pt) ∧ w'.cell? ⟨w1.heap.size, 3, none⟩ = some (.string pb))) (first | exact l7d | exact CE.out _ _ _ _ b7 | exact CE.out _ _ _ _ (by assumption))
  ((first
   | (go_at_call 89; (with_reducible refine (HV _).out.mono ?_); rintro e7 w7 ⟨rfl, hb7⟩; have b8 := b7d.over hb7)
   | (go_at_call 90; (with_reducible refine (HS _).out.mono ?_); rintro e8 w8 ⟨rfl, hb8⟩; have b9 := b8.over hb8; have r9 := CR.out _ _ _ _ b9)))
 all_goals
  obtain ⟨⟨c0, c1, c2, c3⟩, f0, f1, f2, f3⟩ := r9
  go_wp2
  obtain ⟨q1, q2⟩ := b9.fill 2 rfl (.int .i64 x1) (.int .i64 x2) (.int .i64 x3) (.int .i64 x4)
  exact bodyPost_ret (meta_result rfl _ _ w.heap.size _ rfl q1 rfl) rfl ⟨rfl, q2⟩
theorem mread_any (w : World) (b : ByteArray) :
  Calls Tryz.prog 140 #[.string b] w fun r w' => r = .returned (.tuple #[(readM b).v, .int .i64 (readR b)]) ∧ Below w.heap.size w w' := by
 unfold readM readR
 by_cases h : readE b = 0
 ·by_cases hn : (got (readP b).body).ok
  ·by_cases hx : readP b = (got (readP b).body).sheet
   ·rw [if_pos ⟨h, hn, hx⟩, if_pos h, if_pos ⟨hn, hx⟩]; exact mread_good w b h hn hx
   ·rw [if_neg (fun k => hx k.2.2), if_pos h, if_neg (fun k => hx k.2)]; exact mread_odd w b h hn hx
  ·rw [if_neg (fun k => hn k.2.1), if_pos h, if_neg (fun k => hn k.1)]; exact mread_bad w b h hn
 ·rw [if_neg (fun k => h k.1), if_neg h]; exact mread_err w b h
end Go.Proofs.YtbkngnjkaledlaaGreat.P6
