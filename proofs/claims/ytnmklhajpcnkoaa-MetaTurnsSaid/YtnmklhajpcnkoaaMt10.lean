/-
  The reference's LayMeta, by contract.
-/
import Derived.Test.YtnmklhajpcnkoaaMt8
namespace Go.Proofs.Ytnmklhajpcnkoaa.P6
open Go Go.RowKit Go.Lib Go.Proofs.Ytnmklhajpcnkoaa.P0 Go.Proofs.Ytnmklhajpcnkoaa.P2 Go.Proofs.Ytnmklhajpcnkoaa.P5

/-- a meta's own block -/
structure OSt (w0 : World) (m : Mt) (w : World) : Prop where
  hm : w.heap[w0.heap.size]? = some (.cells m.cells 29 (0, 0))
  below : Below w0.heap.size w0 w
theorem OSt.over {w0 : World} {m : Mt} {w w' : World} (h : OSt w0 m w) (k : Below w.heap.size w w') : OSt w0 m w' :=
  ⟨by rw [k.block _ (lt_of_block h.hm)]; exact h.hm, thenBelow h.below k⟩
theorem OSt.drew {w0 : World} {m : Mt} {w : World} (h : OSt w0 m w) : OSt w0 m w.drew := h.over ((Below.refl _ _).drew)
theorem OSt.start (w : World) (m : Mt) : OSt w m (w.alloc (.cells m.cells 29)) := ⟨new_at w _ _, below_new w _⟩
theorem bytes_ref (m : Mt) : str (low 8 m.tx.toNat) ++ str (low 8 m.root.toNat) ++ str (low 8 m.free.toNat) ++ str (low 8 m.pages.toNat) = str m.bytes := by
  apply text_ext
  simp only [text_app, str_list, Mt.bytes, List.append_assoc]

set_option maxRecDepth 100000 in
set_option maxHeartbeats 4000000 in
theorem rmlay_ok (w : World) (m : Mt) (h : m.ok) :
    Calls Try.prog 11 #[m.v] w fun r w' => r = .returned (.string m.sector) ∧ Below w.heap.size w w' := by
  have hr := m.ok_range h
  have hst := OSt.start w m
  have hstd := hst.drew
  have HL := fun W => Lib.hid (rLay_ok W m.sheet (m.sheet_ok h))
  have hB := bytes_ref m
  have HV : Hid (m.sheet.v = .agg #[.int .i64 1, .int .i64 (m.tx % 2), .int .i64 m.tx, .string (str m.bytes)]) := rfl
  rw [HV.out, show m.sheet.sector = m.sector from rfl] at HL
  generalize m.sector = S at *
  clear h HV
  obtain ⟨tx, root, free, pages⟩ := m
  simp only at hr hB HL
  obtain ⟨h1, h2, h3, h4, h5, h6, h7, h8⟩ := hr
  obtain ⟨tx, rfl⟩ := Int.eq_ofNat_of_zero_le (show 0 ≤ tx by omega)
  obtain ⟨root, rfl⟩ := Int.eq_ofNat_of_zero_le h3
  obtain ⟨free, rfl⟩ := Int.eq_ofNat_of_zero_le h5
  obtain ⟨pages, rfl⟩ := Int.eq_ofNat_of_zero_le (show 0 ≤ pages by omega)
  simp only [Int.toNat_natCast] at hB
  have LL : ∀ (v : Nat) (W : World), v < 18446744073709551616 → OSt w ⟨tx, root, free, pages⟩ W → Calls Try.prog 24 #[.int .u64 v, .int .i64 8] W fun r w' => r = .returned (.string (str (low 8 v))) ∧ OSt w ⟨tx, root, free, pages⟩ w' :=
    fun v W hv hW => (rLow_any W v 8 hv (by omega)).mono fun _ _ ⟨a, d⟩ => ⟨a, hW.over d⟩
  have L1 := Lib.hid (show ∀ W, OSt w ⟨tx, root, free, pages⟩ W → _ from fun W hW => LL tx W (by omega) hW)
  have L2 := Lib.hid (show ∀ W, OSt w ⟨tx, root, free, pages⟩ W → _ from fun W hW => LL root W (by omega) hW)
  have L3 := Lib.hid (show ∀ W, OSt w ⟨tx, root, free, pages⟩ W → _ from fun W hW => LL free W (by omega) hW)
  have L4 := Lib.hid (show ∀ W, OSt w ⟨tx, root, free, pages⟩ W → _ from fun W hW => LL pages W (by omega) hW)
  have w1 : IntKind.u64.wrap (tx : Int) = tx := by rw [IntKind.wrap_u64]; omega
  have w2 : IntKind.u64.wrap (root : Int) = root := by rw [IntKind.wrap_u64]; omega
  have w3 : IntKind.u64.wrap (free : Int) = free := by rw [IntKind.wrap_u64]; omega
  have w4 : IntKind.u64.wrap (pages : Int) = pages := by rw [IntKind.wrap_u64]; omega
  have CE := Lib.hid (show ∀ W, OSt w ⟨tx, root, free, pages⟩ W → _ ∧ _ ∧ _ ∧ _ from fun W hW => cells4 hW.hm)
  have BE := Lib.hid (show ∀ W, OSt w ⟨tx, root, free, pages⟩ W → Below w.heap.size w W from fun W hW => hW.below)
  have q0 := CE.out _ hst
  have q0d := CE.out _ hstd
  have rm : (tx : Int).tmod 2 = (tx : Int) % 2 := Int.tmod_eq_emod_of_nonneg (by omega)
  have z1 : (str (low 8 tx)).size = 8 := by rw [str_size, low_length]
  have z2 : (str (low 8 root)).size = 8 := by rw [str_size, low_length]
  have z3 : (str (low 8 free)).size = 8 := by rw [str_size, low_length]
  have z4 : (str (low 8 pages)).size = 8 := by rw [str_size, low_length]
  generalize str (low 8 tx) = s1 at *
  generalize str (low 8 root) = s2 at *
  generalize str (low 8 free) = s3 at *
  generalize str (low 8 pages) = s4 at *
  generalize str (Mt.mk (tx : Int) root free pages).bytes = B at *
  have HB := Lib.hid hB
  clear h1 h2 h3 h4 h5 h6 h7 h8 LL hB
  unfold Mt.v Mt.cells at *
  go_enter Try.func11, Try.ntmps11
  go_wp2_with fail
  go_region_held3 (fun w' => w'.cell? ⟨w.heap.size, 0, none⟩ = some (.int .i64 tx) ∧ w'.cell? ⟨w.heap.size, 1, none⟩ = some (.int .i64 root) ∧ w'.cell? ⟨w.heap.size, 2, none⟩ = some (.int .i64 free) ∧ w'.cell? ⟨w.heap.size, 3, none⟩ = some (.int .i64 pages)) (first | exact q0 | exact q0d | exact CE.out _ (by assumption))
    ((first
      | (go_at_call 24; (with_reducible refine (L1.out _ (by assumption)).mono ?_); rintro e w5 ⟨rfl, st1⟩)
      | (go_at_call 24; (with_reducible refine (L2.out _ (by assumption)).mono ?_); rintro e w5 ⟨rfl, st1⟩)
      | (go_at_call 24; (with_reducible refine (L3.out _ (by assumption)).mono ?_); rintro e w5 ⟨rfl, st1⟩)
      | (go_at_call 24; (with_reducible refine (L4.out _ (by assumption)).mono ?_); rintro e w5 ⟨rfl, st1⟩)
      | (go_at_call 24; rw [w1]; (with_reducible refine (L1.out _ (by assumption)).mono ?_); rintro e w5 ⟨rfl, st1⟩)
      | (go_at_call 24; rw [w2]; (with_reducible refine (L2.out _ (by assumption)).mono ?_); rintro e w5 ⟨rfl, st1⟩)
      | (go_at_call 24; rw [w3]; (with_reducible refine (L3.out _ (by assumption)).mono ?_); rintro e w5 ⟨rfl, st1⟩)
      | (go_at_call 24; rw [w4]; (with_reducible refine (L4.out _ (by assumption)).mono ?_); rintro e w5 ⟨rfl, st1⟩)
      | (go_at_call 23; rw [HB.out]; (with_reducible refine (HL _).out.mono ?_); rintro e w6 ⟨rfl, hb6⟩; have st2 := OSt.over (by assumption) hb6)))
  all_goals
    go_wp2
    go_ret
    exact ⟨rfl, BE.out _ st2⟩

end Go.Proofs.Ytnmklhajpcnkoaa.P6
