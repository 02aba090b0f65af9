/-
  Texts of the proof of SaidNone8, side by side: Pg9.
-/
import Derived.Test.YtbkngnjkaledlaaGreatMn34
import Derived.Laws.IdiomStrings
/-
  The reference's Zeros and LayPage; package page's Lay of a page that may not be; Front; the reference's Num, by contracts.
-/
namespace Go.Proofs.YtbkngnjkaledlaaGreat.P5
open Go Go.RowKit Go.Lib Go.Proofs.YtbkngnjkaledlaaGreat.P0 Go.Proofs.YtbkngnjkaledlaaGreat.P2

theorem zeros_cell (n j : Nat) (h : j < n) : (madeCells #[Value.int .u8 0] n)[j]? = some (.int .u8 0) := by
  simp [madeCells, h, Nat.mod_one]
theorem zeros_string (w : World) (n : Nat) : (convert 141 9 (.slice (some ⟨w.heap.size, 0, none⟩) n n)).run Tryz.prog (w.alloc (.cells (madeCells #[.int .u8 0] n) 5)) = .ok (.string (zer n)) (w.alloc (.cells (madeCells #[.int .u8 0] n) 5)) := by
  have h := run_convert_bytes_back (w.alloc (.cells (madeCells #[.int .u8 0] n) 5)) 141 9 5 ⟨w.heap.size, 0, none⟩ n (List.replicate n (0 : UInt8)) Tryz.underlying141 Tryz.underlying5 Tryz.underlying9 (fun j hj => by
    rw [Go.WideShapes.add_plain, Nat.zero_add, cell_at (new_at w _ _), zeros_cell n j (by simpa using hj)]
    simp)
  rw [List.length_replicate] at h
  exact h
theorem made_row5 (w : World) (n : Nat) (hn : n ≤ 100000) : (Instr.makeSlice 141 (.int .i64 n) (.int .i64 n)).run Tryz.prog w = .ok (.slice (some ⟨w.heap.size, 0, none⟩) n n) (w.alloc (.cells (madeCells #[.int .u8 0] n) 5)) :=
  run_make_row' (P := Tryz.prog) 141 5 (.int .u8 0) 1 Tryz.underlying141 infoByte rfl .i64 .i64 n (by omega) (by omega) w
theorem rZeros_any (w : World) (n : Nat) (hn : n ≤ 100000) :
    Calls Tryz.prog 86 #[.int .i64 n] w fun r w' => r = .returned (.string (zer n)) ∧ Below w.heap.size w w' := by
  have h1 := made_row5 w n hn
  have h2 := zeros_string w n
  have hB := Lib.hid (below_new w (.cells (madeCells #[.int .u8 0] n) 5))
  generalize w.alloc (.cells (madeCells #[.int .u8 0] n) 5) = w2 at h1 h2 hB
  go_enter Tryz.func86, Tryz.ntmps86
  go_wp2
  go_ret
  exact ⟨rfl, hB.out⟩

/-- a page that may not be -/
theorem lay_bad (w : World) (p : Pg) (h : ¬ p.ok) :
    Calls Tryz.prog 85 #[p.v] w fun r w' => r = .returned (.tuple #[.string ⟨#[]⟩, .int .i64 1]) ∧ Below w.heap.size w w' := by
  have HV := fun w' => Lib.hid (valid_any w' p)
  rw [decide_eq_false h] at HV
  unfold Pg.v at *
  go_enter Tryz.func85, Tryz.ntmps85
  go_wp2_with (go_at_call 84; refine (HV _).out.mono ?_; rintro e w1 ⟨rfl, hb1⟩)
  go_ret2
  exact ⟨rfl, thenBelow (below_new _ _) hb1⟩

/-- the page stands in block a -/
structure RSt (w0 : World) (a : Nat) (p : Pg) (w : World) : Prop where
  page : w.heap[a]? = some (.cells p.cells 47 (0, 0))
  below : Below w0.heap.size w0 w
theorem RSt.over {w0 : World} {a : Nat} {p : Pg} {w w' : World} (h : RSt w0 a p w) (k : Below w.heap.size w w') : RSt w0 a p w' :=
  ⟨by rw [k.block a (lt_of_block h.page)]; exact h.page, thenBelow h.below k⟩
theorem RSt.drew {w0 : World} {a : Nat} {p : Pg} {w : World} (h : RSt w0 a p w) : RSt w0 a p w.drew := h.over ((Below.refl _ _).drew)
theorem RSt.start (w : World) (p : Pg) : RSt w w.heap.size p (w.alloc (.cells p.cells 47)) := ⟨new_at w _ _, below_new w _⟩

/-- the reference's bytes, in its own order -/
theorem fore_ref (k n id tx : Nat) (body : ByteArray) : str (low 1 k) ++ str (low 1 n) ++ str (low 2 id) ++ str (low 4 tx) ++ str (low 8 tx) ++ body ++ zer (232 - n) = str (fore k n id tx body.data.toList) := by
  apply text_ext
  simp only [text_app, str_list, zer, P5.fore, List.append_assoc]
theorem sector_ref (p : Pg) : sealOf (str p.fore) ++ str (low 4 p.tx.toNat) = p.sector := by
  apply text_ext
  rw [text_app, str_list, sealOf, text_app, str_list, tailOf, str_list, str_list, Pg.sector, str_list, Pg.laid, List.append_assoc]

set_option maxRecDepth 100000 in
set_option maxHeartbeats 4000000 in
theorem rLay_ok (w : World) (p : Pg) (h : p.ok) :
    Calls Tryz.prog 38 #[p.v] w fun r w' => r = .returned (.string p.sector) ∧ Below w.heap.size w w' := by
  have hR := sector_ref p
  have hS : (sealOf (str p.fore)).size = 252 := by rw [seal_size, str_size, p.fore_len h]
  have hF : (str p.fore).size = 248 := by rw [str_size, p.fore_len h]
  have HSe := fun w' => Lib.hid (rSeal_any w' (str p.fore) (by omega))
  have hst := RSt.start w p
  obtain ⟨k, id, tx, body⟩ := p
  obtain ⟨h1, h2, h3, h4, h5, h6, h7⟩ := h
  simp only at h1 h2 h3 h4 h5 h6 h7
  obtain ⟨k, rfl⟩ := Int.eq_ofNat_of_zero_le (show 0 ≤ k by omega)
  obtain ⟨id, rfl⟩ := Int.eq_ofNat_of_zero_le h3
  obtain ⟨tx, rfl⟩ := Int.eq_ofNat_of_zero_le h5
  have hz := zer_size (232 - body.size)
  have LL : ∀ (n v : Nat) (W : World), n ≤ 8 → v < 18446744073709551616 → RSt w w.heap.size ⟨k, id, tx, body⟩ W → Calls Tryz.prog 87 #[.int .u64 v, .int .i64 n] W fun r w' => r = .returned (.string (str (low n v))) ∧ RSt w w.heap.size ⟨k, id, tx, body⟩ w' :=
    fun n v W hn hv hW => (rLow_any W v n hv hn).mono fun _ _ ⟨a, d⟩ => ⟨a, hW.over d⟩
  have L1 := Lib.hid (show ∀ W, RSt w w.heap.size ⟨k, id, tx, body⟩ W → Calls Tryz.prog 87 #[.int .u64 k, .int .i64 1] W fun r w' => r = .returned (.string (str (low 1 k))) ∧ RSt w w.heap.size ⟨k, id, tx, body⟩ w' from fun W hW => LL 1 k W (by omega) (by omega) hW)
  have L2 := Lib.hid (show ∀ W, RSt w w.heap.size ⟨k, id, tx, body⟩ W → Calls Tryz.prog 87 #[.int .u64 body.size, .int .i64 1] W fun r w' => r = .returned (.string (str (low 1 body.size))) ∧ RSt w w.heap.size ⟨k, id, tx, body⟩ w' from fun W hW => LL 1 body.size W (by omega) (by omega) hW)
  have L3 := Lib.hid (show ∀ W, RSt w w.heap.size ⟨k, id, tx, body⟩ W → Calls Tryz.prog 87 #[.int .u64 id, .int .i64 2] W fun r w' => r = .returned (.string (str (low 2 id))) ∧ RSt w w.heap.size ⟨k, id, tx, body⟩ w' from fun W hW => LL 2 id W (by omega) (by omega) hW)
  have L4 := Lib.hid (show ∀ W, RSt w w.heap.size ⟨k, id, tx, body⟩ W → Calls Tryz.prog 87 #[.int .u64 tx, .int .i64 4] W fun r w' => r = .returned (.string (str (low 4 tx))) ∧ RSt w w.heap.size ⟨k, id, tx, body⟩ w' from fun W hW => LL 4 tx W (by omega) (by omega) hW)
  have L5 := Lib.hid (show ∀ W, RSt w w.heap.size ⟨k, id, tx, body⟩ W → Calls Tryz.prog 87 #[.int .u64 tx, .int .i64 8] W fun r w' => r = .returned (.string (str (low 8 tx))) ∧ RSt w w.heap.size ⟨k, id, tx, body⟩ w' from fun W hW => LL 8 tx W (by omega) (by omega) hW)
  have X4 := fun W => Lib.hid (show Calls Tryz.prog 87 #[.int .u64 tx, .int .i64 4] W fun r w' => r = .returned (.string (str (low 4 tx))) ∧ Below W.heap.size W w' from rLow_any W tx 4 (by omega) (by omega))
  have L6 := Lib.hid (show ∀ W, RSt w w.heap.size ⟨k, id, tx, body⟩ W → Calls Tryz.prog 86 #[.int .i64 (IntKind.i64.wrap (232 - (body.size : Int)))] W fun r w' => r = .returned (.string (zer (232 - body.size))) ∧ RSt w w.heap.size ⟨k, id, tx, body⟩ w' from
    fun W hW => by
      rw [show IntKind.i64.wrap ((232 : Int) - (body.size : Int)) = ((232 - body.size : Nat) : Int) by rw [IntKind.wrap_i64]; omega]
      exact (rZeros_any W (232 - body.size) (by omega)).mono fun _ _ ⟨a, d⟩ => ⟨a, hW.over d⟩)
  have L7 := Lib.hid (show ∀ W, RSt w w.heap.size ⟨k, id, tx, body⟩ W → Calls Tryz.prog 86 #[.int .i64 (232 - (body.size : Int))] W fun r w' => r = .returned (.string (zer (232 - body.size))) ∧ RSt w w.heap.size ⟨k, id, tx, body⟩ w' from
    fun W hW => by
      rw [show ((232 : Int) - (body.size : Int)) = ((232 - body.size : Nat) : Int) by omega]
      exact (rZeros_any W (232 - body.size) (by omega)).mono fun _ _ ⟨a, d⟩ => ⟨a, hW.over d⟩)
  have y1 : ¬ 9223372036854775807 < 16 + body.size := by omega
  have y2 : ¬ 9223372036854775807 < 16 + body.size + (232 - body.size) := by omega
  have CE := Lib.hid (show ∀ W, RSt w w.heap.size ⟨k, id, tx, body⟩ W → PCells W w.heap.size ⟨k, id, tx, body⟩ from fun W hW => Pg.pcells hW.page)
  have BE := Lib.hid (show ∀ W, RSt w w.heap.size ⟨k, id, tx, body⟩ W → Below w.heap.size w W from fun W hW => hW.below)
  have eF := fore_ref k body.size id tx body
  rw [show str (fore k body.size id tx body.data.toList) = str (Pg.mk k id tx body).fore from rfl] at eF
  generalize str (Pg.mk k id tx body).fore = F at HSe hR hS hF eF
  generalize (Pg.mk k id tx body).sector = R at hR
  rw [show (Pg.mk (k : Int) id tx body).tx.toNat = tx from rfl] at hR
  have z1 : (str (low 1 k)).size = 1 := by rw [str_size, low_length]
  have z2 : (str (low 1 body.size)).size = 1 := by rw [str_size, low_length]
  have z3 : (str (low 2 id)).size = 2 := by rw [str_size, low_length]
  have z4 : (str (low 4 tx)).size = 4 := by rw [str_size, low_length]
  have z5 : (str (low 8 tx)).size = 8 := by rw [str_size, low_length]
  generalize str (low 1 k) = s1 at L1 eF z1
  generalize str (low 1 body.size) = s2 at L2 eF z2
  generalize str (low 2 id) = s3 at L3 eF z3
  generalize str (low 4 tx) = s4 at L4 eF z4 hR X4
  generalize str (low 8 tx) = s5 at L5 eF z5
  generalize zer (232 - body.size) = Z at L6 L7 hz eF
  generalize sealOf F = G at HSe hR hS
  have HE := Lib.hid hR
  have HF := Lib.hid eF
  have w1 : IntKind.u64.wrap (k : Int) = k := by rw [IntKind.wrap_u64]; omega
  have w2 : IntKind.u64.wrap (id : Int) = id := by rw [IntKind.wrap_u64]; omega
  have w3 : IntKind.u64.wrap (tx : Int) = tx := by rw [IntKind.wrap_u64]; omega
  have w4 : IntKind.u64.wrap (body.size : Int) = body.size := by rw [IntKind.wrap_u64]; omega
  clear h1 h2 h3 h4 h5 h6 hR LL eF
  have q0 := CE.out _ hst
  have q0d := CE.out _ hst.drew
  have hstd := hst.drew
  have m0 := BE.out _ hst
  unfold PCells at CE q0 q0d
  simp only at q0 q0d
  unfold Pg.v Pg.cells at *
  go_enter Tryz.func38, Tryz.ntmps38
  go_wp2
  go_region_held3 (fun w' => w'.cell? ⟨w.heap.size, 0, none⟩ = some (.int .i64 k) ∧ w'.cell? ⟨w.heap.size, 1, none⟩ = some (.int .i64 id) ∧ w'.cell? ⟨w.heap.size, 2, none⟩ = some (.int .i64 tx) ∧ w'.cell? ⟨w.heap.size, 3, none⟩ = some (.string body)) (first | exact q0 | exact q0d | exact CE.out _ (by assumption))
    ((first
      | (go_at_call 87; rw [w1]; (with_reducible refine (L1.out _ (by assumption)).mono ?_); rintro e w5 ⟨rfl, st1⟩)
      | (go_at_call 87; rw [w4]; (with_reducible refine (L2.out _ (by assumption)).mono ?_); rintro e w5 ⟨rfl, st1⟩)
      | (go_at_call 87; rw [w2]; (with_reducible refine (L3.out _ (by assumption)).mono ?_); rintro e w5 ⟨rfl, st1⟩)
      | (go_at_call 87; rw [w3]; (with_reducible refine (L4.out _ (by assumption)).mono ?_); rintro e w5 ⟨rfl, st1⟩)
      | (go_at_call 87; (with_reducible refine (L1.out _ (by assumption)).mono ?_); rintro e w5 ⟨rfl, st1⟩)
      | (go_at_call 87; (with_reducible refine (L2.out _ (by assumption)).mono ?_); rintro e w5 ⟨rfl, st1⟩)
      | (go_at_call 87; (with_reducible refine (L3.out _ (by assumption)).mono ?_); rintro e w5 ⟨rfl, st1⟩)
      | (go_at_call 87; (with_reducible refine (L4.out _ (by assumption)).mono ?_); rintro e w5 ⟨rfl, st1⟩)
      | (go_at_call 87; (with_reducible refine (L5.out _ (by assumption)).mono ?_); rintro e w5 ⟨rfl, st1⟩)
      | (go_at_call 86; (with_reducible refine (L6.out _ (by assumption)).mono ?_); rintro e w5 ⟨rfl, st1⟩)
      | (go_at_call 86; (with_reducible refine (L7.out _ (by assumption)).mono ?_); rintro e w5 ⟨rfl, st1⟩)))
  have HR : Hid (∀ W, RSt w w.heap.size ⟨k, id, tx, body⟩ W → ∀ W2, Below W.heap.size W W2 → ∀ W3, Below W2.heap.size W2 W3 → Below w.heap.size w W3) := fun W hW W2 h2 W3 h3 => thenBelow (thenBelow hW.below h2) h3
  clear hst hstd m0 q0 q0d
  rw [HF.out]
  go_wp2_with (first
    | (go_at_call 88; (with_reducible refine (HSe _).out.mono ?_); rintro e w6 ⟨rfl, hb6⟩)
    | (go_at_call 87; (with_reducible refine (X4 _).out.mono ?_); rintro e w7 ⟨rfl, hb7⟩))
  go_ret
  rw [HE.out]
  exact ⟨rfl, HR.out _ (by assumption) _ hb6 _ hb7⟩

end Go.Proofs.YtbkngnjkaledlaaGreat.P5
