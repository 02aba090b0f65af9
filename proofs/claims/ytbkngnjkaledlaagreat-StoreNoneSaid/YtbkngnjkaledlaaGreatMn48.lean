/-
  Texts of the proof of SaidNone8, side by side: Mt9.
-/
import Derived.Test.YtbkngnjkaledlaaGreatMn47
/-
  Package meta's sheet and Lay, by contracts.
-/
namespace Go.Proofs.YtbkngnjkaledlaaGreat.P6
open Go Go.RowKit Go.Lib Go.Proofs.YtbkngnjkaledlaaGreat.P0 Go.Proofs.YtbkngnjkaledlaaGreat.P2 Go.Proofs.YtbkngnjkaledlaaGreat.P5

/-- while a meta's page is made: the Put in block b holds xs, the meta stands in block a, the result in block r -/
structure SSt (w0 : World) (a r b : Nat) (m : Mt) (w : World) (xs : List UInt8) : Prop where
  put : PutIs w b xs 0
  hm : w.heap[a]? = some (.cells m.cells 41 (0, 0))
  hr : w.heap[r]? = some (.cells Pg.zero.cells 47 (0, 0))
  na : a ≠ b
  nr : r ≠ b
  below : Below w0.heap.size w0 w
  lo : w0.heap.size ≤ b
  rlo : w0.heap.size ≤ r
theorem SSt.step {w0 : World} {a r b : Nat} {m : Mt} {w w' : World} {xs ys : List UInt8} (h : SSt w0 a r b m w xs) (k : PutOwn w' b ys 0) (f : Fr b w w') : SSt w0 a r b m w' ys :=
  ⟨.inl k, f.keeps a _ _ _ h.hm (by decide) h.na, f.keeps r _ _ _ h.hr (by decide) h.nr, h.na, h.nr, h.below.trans (f.below.mono h.lo), h.lo, h.rlo⟩
theorem SSt.drew {w0 : World} {a r b : Nat} {m : Mt} {w : World} {xs : List UInt8} (h : SSt w0 a r b m w xs) : SSt w0 a r b m w.drew xs :=
  ⟨h.put.below ((Below.refl _ _).drew), h.hm, h.hr, h.na, h.nr, thenBelow h.below ((Below.refl _ _).drew), h.lo, h.rlo⟩
theorem SSt.start (w : World) (m : Mt) : SSt w w.heap.size (w.heap.size + 1) (w.heap.size + 1 + 1) m (((w.alloc (.cells m.cells 41)).alloc (.cells Pg.zero.cells 47)).alloc (.cells #[.slice none 0 0, .pointer none, .int .i64 0] 169)) [] := by
  have s1 : (w.alloc (.cells m.cells 41)).heap.size = w.heap.size + 1 := by simp
  have s2 : ((w.alloc (.cells m.cells 41)).alloc (.cells Pg.zero.cells 47)).heap.size = w.heap.size + 1 + 1 := by simp
  have h1 := new_at w m.cells 41
  have h2 := new_at (w.alloc (.cells m.cells 41)) Pg.zero.cells 47
  have h3 := new_at ((w.alloc (.cells m.cells 41)).alloc (.cells Pg.zero.cells 47)) #[.slice none 0 0, .pointer none, .int .i64 0] 169
  rw [s1] at h2
  rw [s2] at h3
  refine ⟨.inr ⟨h3, rfl⟩, ?_, ?_, by omega, by omega, P0.grow (P0.grow (below_new w _) _) _, by omega, by omega⟩
  · rw [Below.heap_alloc _ _ _ (by omega), Below.heap_alloc _ _ _ (by omega)]; exact h1
  · rw [Below.heap_alloc _ _ _ (by omega)]; exact h2
def MCells (w : World) (a : Nat) (m : Mt) : Prop :=
  w.cell? ⟨a, 0, none⟩ = some (.int .i64 m.tx) ∧ w.cell? ⟨a, 1, none⟩ = some (.int .i64 m.root) ∧ w.cell? ⟨a, 2, none⟩ = some (.int .i64 m.free) ∧ w.cell? ⟨a, 3, none⟩ = some (.int .i64 m.pages)
theorem Mt.mcells {w : World} {a : Nat} {m : Mt} {t : TypeId} (h : w.heap[a]? = some (.cells m.cells t (0, 0))) : MCells w a m := cells4 h

def sg1 (tx : Nat) : List UInt8 := [] ++ low 8 tx
def sg2 (tx root : Nat) : List UInt8 := sg1 tx ++ low 8 root
def sg3 (tx root free : Nat) : List UInt8 := sg2 tx root ++ low 8 free
def sg4 (tx root free pages : Nat) : List UInt8 := sg3 tx root free ++ low 8 pages

theorem SSt.fin {w0 : World} {a r b : Nat} {m : Mt} {w : World} {xs : List UInt8} (h : SSt w0 a r b m w xs) (x0 x1 x2 x3 : Value) :
    (((((w.setCell ⟨r, 0, none⟩ x0).setCell ⟨r, 1, none⟩ x1).setCell ⟨r, 2, none⟩ x2).setCell ⟨r, 3, none⟩ x3).heap[r]? = some (.cells #[x0, x1, x2, x3] 47 (0, 0))) ∧ Below w0.heap.size w0 ((((w.setCell ⟨r, 0, none⟩ x0).setCell ⟨r, 1, none⟩ x1).setCell ⟨r, 2, none⟩ x2).setCell ⟨r, 3, none⟩ x3) :=
  ⟨set_at (set_at (set_at (set_at h.hr 0 x0) 1 x1) 2 x2) 3 x3, (((h.below.setCell h.rlo x0).setCell h.rlo x1).setCell h.rlo x2).setCell h.rlo x3⟩

set_option maxRecDepth 100000 in
set_option maxHeartbeats 4000000 in
theorem sheet_any (w : World) (m : Mt) (h : m.ok) :
    Calls Tryz.prog 90 #[m.v] w fun r w' => r = .returned m.sheet.v ∧ Below w.heap.size w w' := by
  have hr := m.ok_range h
  have st0 := SSt.start w m
  clear h
  obtain ⟨tx, root, free, pages⟩ := m
  simp only at hr
  obtain ⟨h1, h2, h3, h4, h5, h6, h7, h8⟩ := hr
  obtain ⟨tx, rfl⟩ := Int.eq_ofNat_of_zero_le (show 0 ≤ tx by omega)
  obtain ⟨root, rfl⟩ := Int.eq_ofNat_of_zero_le h3
  obtain ⟨free, rfl⟩ := Int.eq_ofNat_of_zero_le h5
  obtain ⟨pages, rfl⟩ := Int.eq_ofNat_of_zero_le (show 0 ≤ pages by omega)
  have L1 := Lib.hid (show ∀ b W, SSt w w.heap.size (w.heap.size + 1) b ⟨tx, root, free, pages⟩ W [] → Calls Tryz.prog 122 #[.pointer (some ⟨b, 0, none⟩), .int .i64 tx] W fun r w' => r = .returned (.pointer (some ⟨b, 0, none⟩)) ∧ SSt w w.heap.size (w.heap.size + 1) b ⟨tx, root, free, pages⟩ w' (sg1 tx) from
    fun b W hW => (putInt_ok W b _ tx (by omega) (by simp) hW.put).mono fun _ _ ⟨a, c, d⟩ => ⟨a, hW.step c d⟩)
  have L2 := Lib.hid (show ∀ b W, SSt w w.heap.size (w.heap.size + 1) b ⟨tx, root, free, pages⟩ W (sg1 tx) → Calls Tryz.prog 122 #[.pointer (some ⟨b, 0, none⟩), .int .i64 root] W fun r w' => r = .returned (.pointer (some ⟨b, 0, none⟩)) ∧ SSt w w.heap.size (w.heap.size + 1) b ⟨tx, root, free, pages⟩ w' (sg2 tx root) from
    fun b W hW => (putInt_ok W b _ root (by omega) (by simp [sg1, low_length]) hW.put).mono fun _ _ ⟨a, c, d⟩ => ⟨a, hW.step c d⟩)
  have L3 := Lib.hid (show ∀ b W, SSt w w.heap.size (w.heap.size + 1) b ⟨tx, root, free, pages⟩ W (sg2 tx root) → Calls Tryz.prog 122 #[.pointer (some ⟨b, 0, none⟩), .int .i64 free] W fun r w' => r = .returned (.pointer (some ⟨b, 0, none⟩)) ∧ SSt w w.heap.size (w.heap.size + 1) b ⟨tx, root, free, pages⟩ w' (sg3 tx root free) from
    fun b W hW => (putInt_ok W b _ free (by omega) (by simp [sg2, sg1, low_length]) hW.put).mono fun _ _ ⟨a, c, d⟩ => ⟨a, hW.step c d⟩)
  have L4 := Lib.hid (show ∀ b W, SSt w w.heap.size (w.heap.size + 1) b ⟨tx, root, free, pages⟩ W (sg3 tx root free) → Calls Tryz.prog 122 #[.pointer (some ⟨b, 0, none⟩), .int .i64 pages] W fun r w' => r = .returned (.pointer (some ⟨b, 0, none⟩)) ∧ SSt w w.heap.size (w.heap.size + 1) b ⟨tx, root, free, pages⟩ w' (sg4 tx root free pages) from
    fun b W hW => (putInt_ok W b _ pages (by omega) (by simp [sg3, sg2, sg1, low_length]) hW.put).mono fun _ _ ⟨a, c, d⟩ => ⟨a, hW.step c d⟩)
  have eF : (⟨(sg4 tx root free pages).toArray⟩ : ByteArray) = str (Mt.mk tx root free pages).bytes := by
    show str _ = _
    simp only [sg4, sg3, sg2, sg1, Mt.bytes, Int.toNat_natCast, List.nil_append, List.append_assoc]
  have L9 := Lib.hid (show ∀ b W, SSt w w.heap.size (w.heap.size + 1) b ⟨tx, root, free, pages⟩ W (sg4 tx root free pages) → Calls Tryz.prog 124 #[.pointer (some ⟨b, 0, none⟩)] W fun r w' => r = .returned (.tuple #[.string (str (Mt.mk tx root free pages).bytes), .int .i64 0]) ∧ SSt w w.heap.size (w.heap.size + 1) b ⟨tx, root, free, pages⟩ w' (sg4 tx root free pages) from
    fun b W hW => by
      have H := putEnd_ok W b _ hW.put
      rw [eF] at H
      exact H.mono fun _ _ ⟨a, d⟩ => ⟨a, d ▸ hW⟩)
  have LS := Lib.hid (show ∀ b W, SSt w w.heap.size (w.heap.size + 1) b ⟨tx, root, free, pages⟩ W (sg4 tx root free pages) → Calls Tryz.prog 42 #[.int .i64 tx] W fun r w' => r = .returned (.int .i64 ((tx : Int) % 2)) ∧ SSt w w.heap.size (w.heap.size + 1) b ⟨tx, root, free, pages⟩ w' (sg4 tx root free pages) from
    fun b W hW => (slot_any W tx (by omega) (by omega)).mono fun _ _ ⟨a, d⟩ => ⟨a, d ▸ hW⟩)
  have CE := Lib.hid (show ∀ b W xs, SSt w w.heap.size (w.heap.size + 1) b ⟨tx, root, free, pages⟩ W xs → MCells W w.heap.size ⟨tx, root, free, pages⟩ from fun b W xs hW => Mt.mcells hW.hm)
  have SX := Lib.hid (show ∀ b W xs x0 x1 x2 x3, SSt w w.heap.size (w.heap.size + 1) b ⟨tx, root, free, pages⟩ W xs → ((((W.setCell ⟨w.heap.size + 1, 0, none⟩ x0).setCell ⟨w.heap.size + 1, 1, none⟩ x1).setCell ⟨w.heap.size + 1, 2, none⟩ x2).setCell ⟨w.heap.size + 1, 3, none⟩ x3).cell? ⟨w.heap.size, 0, none⟩ = some (.int .i64 tx) from fun b W xs x0 x1 x2 x3 hW => by
    have e : ((((W.setCell ⟨w.heap.size + 1, 0, none⟩ x0).setCell ⟨w.heap.size + 1, 1, none⟩ x1).setCell ⟨w.heap.size + 1, 2, none⟩ x2).setCell ⟨w.heap.size + 1, 3, none⟩ x3).heap[w.heap.size]? = some (.cells (Mt.mk tx root free pages).cells 41 (0, 0)) := by
      rw [Below.heap_setCell _ _ _ _ (by simp), Below.heap_setCell _ _ _ _ (by simp), Below.heap_setCell _ _ _ _ (by simp), Below.heap_setCell _ _ _ _ (by simp)]; exact hW.hm
    exact (Mt.mcells e).1)
  have PE := Lib.hid (show ∀ b W xs, SSt w w.heap.size (w.heap.size + 1) b ⟨tx, root, free, pages⟩ W xs → _ ∧ _ ∧ _ from fun b W xs hW => ⟨(Mt.mcells hW.hm).1, cells4 hW.hr, free4 hW.hr⟩)
  have HV : Hid ((Mt.mk (tx : Int) root free pages).sheet.v = .agg #[.int .i64 1, .int .i64 ((tx : Int) % 2), .int .i64 tx, .string (str (Mt.mk tx root free pages).bytes)]) := rfl
  rw [HV.out]
  generalize str (Mt.mk (tx : Int) root free pages).bytes = B at *
  clear eF h1 h2 h3 h4 h5 h6 h7 h8 HV
  unfold Mt.v Mt.cells Pg.cells Pg.zero at *
  unfold MCells at CE
  have st0d := st0.drew
  have q0 := CE.out _ _ _ st0
  have q0d := CE.out _ _ _ st0d
  go_enter Tryz.func90, Tryz.ntmps90
  go_wp2_with fail
  go_region_held3 (fun w' => w'.cell? ⟨w.heap.size, 0, none⟩ = some (.int .i64 tx) ∧ w'.cell? ⟨w.heap.size, 1, none⟩ = some (.int .i64 root) ∧ w'.cell? ⟨w.heap.size, 2, none⟩ = some (.int .i64 free) ∧ w'.cell? ⟨w.heap.size, 3, none⟩ = some (.int .i64 pages)) (first | exact q0 | exact q0d | exact CE.out _ _ _ (by assumption))
    ((first
      | (go_at_call 122; (with_reducible refine (L1.out _ _ (by assumption)).mono ?_); rintro e w2 ⟨rfl, st1⟩)
      | (go_at_call 122; (with_reducible refine (L2.out _ _ (by assumption)).mono ?_); rintro e w2 ⟨rfl, st1⟩)
      | (go_at_call 122; (with_reducible refine (L3.out _ _ (by assumption)).mono ?_); rintro e w2 ⟨rfl, st1⟩)
      | (go_at_call 122; (with_reducible refine (L4.out _ _ (by assumption)).mono ?_); rintro e w2 ⟨rfl, st1⟩)))
  all_goals
    go_wp2_with (go_at_call 124; (with_reducible refine (L9.out _ _ (by assumption)).mono ?_); rintro e w4 ⟨rfl, st2⟩; have st2d := st2.drew; have k0 := PE.out _ _ _ st2; have k0d := PE.out _ _ _ st2d)
    obtain ⟨k00, ⟨k1, k2, k3, k4⟩, k5, k6, k7, k8⟩ := k0
    go_region_held3 (fun w' => w'.cell? ⟨w.heap.size, 0, none⟩ = some (.int .i64 tx)) (first | exact k00 | exact k0d.1 | exact (PE.out _ _ _ (by assumption)).1 | exact SX.out _ _ _ _ _ _ _ (by assumption))
      ((first | (go_at_call 42; (with_reducible refine (LS.out _ _ (by assumption)).mono ?_); rintro e w5 ⟨rfl, st3⟩; have k9 := PE.out _ _ _ st3)))
    obtain ⟨e1, e2⟩ := SSt.fin st3 (.int .i64 1) (.int .i64 ((tx : Int) % 2)) (.int .i64 tx) (.string B)
    go_wp2
    exact bodyPost_ret (page_one rfl _ _ (w.heap.size + 1) _ rfl e1 rfl) rfl ⟨rfl, e2⟩

/-- Lay of a meta, whatever is handed in -/
def mlaidB (m : Mt) : ByteArray := if m.ok then m.sector else ⟨#[]⟩
def mlaidE (m : Mt) : Int := if m.ok then 0 else 1
theorem mlay_ok (w : World) (m : Mt) (h : m.ok) :
    Calls Tryz.prog 39 #[m.v] w fun r w' => r = .returned (.tuple #[.string m.sector, .int .i64 0]) ∧ Below w.heap.size w w' := by
  have HV := fun W => Lib.hid (mvalid_any W m)
  rw [decide_eq_true h] at HV
  have HS := fun W => Lib.hid (sheet_any W m h)
  have HL := fun W => Lib.hid (lay_ok W m.sheet (m.sheet_ok h))
  have HB := Lib.hid (below_new w (.cells m.cells 41))
  have HM := Lib.hid (fun w1 (hb : Below (w.alloc (.cells m.cells 41)).heap.size (w.alloc (.cells m.cells 41)) w1) => (show MCells w1 w.heap.size m from Mt.mcells (by rw [hb.block _ (by simp)]; exact new_at w _ _)))
  rw [show m.sheet.sector = m.sector from rfl] at HL
  generalize m.sheet.v = V at *
  generalize m.sector = S at *
  clear h
  unfold MCells at HM
  unfold Mt.v Mt.cells at *
  go_enter Tryz.func39, Tryz.ntmps39
  go_wp2_with (first
    | (go_at_call 89; (with_reducible refine (HV _).out.mono ?_); rintro e w1 ⟨rfl, hb1⟩; obtain ⟨a0, a1, a2, a3⟩ := HM.out _ hb1)
    | (go_at_call 90; (with_reducible refine (HS _).out.mono ?_); rintro e w2 ⟨rfl, hb2⟩)
    | (go_at_call 85; (with_reducible refine (HL _).out.mono ?_); rintro e w3 ⟨rfl, hb3⟩))
  go_ret2
  exact ⟨rfl, thenBelow (thenBelow (thenBelow HB.out hb1) hb2) hb3⟩
theorem mlay_bad (w : World) (m : Mt) (h : ¬ m.ok) :
    Calls Tryz.prog 39 #[m.v] w fun r w' => r = .returned (.tuple #[.string ⟨#[]⟩, .int .i64 1]) ∧ Below w.heap.size w w' := by
  have HV := fun W => Lib.hid (mvalid_any W m)
  rw [decide_eq_false h] at HV
  have HB := Lib.hid (below_new w (.cells m.cells 41))
  clear h
  unfold Mt.v Mt.cells at *
  go_enter Tryz.func39, Tryz.ntmps39
  go_wp2_with (go_at_call 89; (with_reducible refine (HV _).out.mono ?_); rintro e w1 ⟨rfl, hb1⟩)
  go_ret2
  exact ⟨rfl, thenBelow HB.out hb1⟩
theorem mlay_any (w : World) (m : Mt) :
    Calls Tryz.prog 39 #[m.v] w fun r w' => r = .returned (.tuple #[.string (mlaidB m), .int .i64 (mlaidE m)]) ∧ Below w.heap.size w w' := by
  unfold mlaidB mlaidE
  by_cases h : m.ok
  · rw [if_pos h, if_pos h]; exact mlay_ok w m h
  · rw [if_neg h, if_neg h]; exact mlay_bad w m h

end Go.Proofs.YtbkngnjkaledlaaGreat.P6
