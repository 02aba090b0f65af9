/-
  Texts of the proof of SaidPlay8b.
-/
import Derived.Test.YtbkngnjkaledlaaGreatMp28
set_option maxHeartbeats 8000000
set_option maxRecDepth 100000
namespace Go.Proofs.YtbkngnjkaledlaaGreat.P5
open Go Go.RowKit Go.Lib P0 P2
theorem zeros_cell (n j : Nat) (h : j < n) : (madeCells #[Value.int .u8 0] n)[j]? = some (.int .u8 0) := by
 simp [madeCells, h, Nat.mod_one]
theorem zeros_string (w : World) (n : Nat) : (convert 141 9 (.slice (some ⟨w.heap.size, 0, none⟩) n n)).run Tryz.prog (w.alloc (.cells (madeCells #[.int .u8 0] n) 5)) = .ok (.string (zer n)) (w.alloc (.cells (madeCells #[.int .u8 0] n) 5)) := by
 have h := run_convert_bytes_back (w.alloc (.cells (madeCells #[.int .u8 0] n) 5)) 141 9 5 ⟨w.heap.size, 0, none⟩ n (List.replicate n (0 : UInt8)) Tryz.underlying141 Tryz.underlying5 Tryz.underlying9 (fun j hj => by
  rw [Go.WideShapes.add_plain, Nat.zero_add, cell_at (new_at w _ _), zeros_cell n j (by simpa using hj)]
  simp)
 rw [List.length_replicate] at h
 exact h
theorem made_row5 (w : World) (n : Nat) (hn : n ≤ 100000) : (Instr.makeSlice 141 (.int .i64 n) (.int .i64 n)).run Tryz.prog w = .ok (.slice (some ⟨w.heap.size, 0, none⟩) n n) (w.alloc (.cells (madeCells #[.int .u8 0] n) 5)) :=
 run_make_row' (P := Tryz.prog) 141 5 (.int .u8 0) 1 Tryz.underlying141 infoByte rfl .i64 .i64 n (by omega) (by omega) w
theorem rZeros_any (w : World) (n : Nat) (hn : n ≤ 100000) :
  Calls Tryz.prog 86 #[.int .i64 n] w fun r w' => r = .returned (.string (zer n)) ∧ Below w.heap.size w w' := by
 have h1 := made_row5 w n hn
 have h2 := zeros_string w n
 have hB := Lib.hid (below_new w (.cells (madeCells #[.int .u8 0] n) 5))
 generalize w.alloc (.cells (madeCells #[.int .u8 0] n) 5) = w2 at h1 h2 hB
 go_enter Tryz.func86, Tryz.ntmps86
 go_wp2
 go_ret
 exact ⟨rfl, hB.out⟩
theorem lay_bad (w : World) (p : Pg) (h : ¬ p.ok) :
  Calls Tryz.prog 85 #[p.v] w fun r w' => r = .returned (.tuple #[.string ⟨#[]⟩, .int .i64 1]) ∧ Below w.heap.size w w' := by
 have HV := fun w' => Lib.hid (valid_any w' p)
 rw [decide_eq_false h] at HV
 unfold Pg.v at *
 go_enter Tryz.func85, Tryz.ntmps85
 go_wp2_with (go_at_call 84; refine (HV _).out.mono ?_; rintro e w1 ⟨rfl, hb1⟩)
 go_ret2
 exact ⟨rfl, thenBelow (below_new _ _) hb1⟩
structure RSt (w0 : World) (a : Nat) (p : Pg) (w : World) : Prop where
 page : w.heap[a]? = some (.cells p.cells 47 (0, 0))
 below : Below w0.heap.size w0 w
theorem RSt.over {w0 : World} {a : Nat} {p : Pg} {w w' : World} (h : RSt w0 a p w) (k : Below w.heap.size w w') : RSt w0 a p w' :=
 ⟨by rw [k.block a (lt_of_block h.page)]; exact h.page, thenBelow h.below k⟩
theorem RSt.drew {w0 : World} {a : Nat} {p : Pg} {w : World} (h : RSt w0 a p w) : RSt w0 a p w.drew := h.over ((Below.refl _ _).drew)
theorem RSt.start (w : World) (p : Pg) : RSt w w.heap.size p (w.alloc (.cells p.cells 47)) := ⟨new_at w _ _, below_new w _⟩
theorem fore_ref (k n id tx : Nat) (body : ByteArray) : str (low 1 k) ++ str (low 1 n) ++ str (low 2 id) ++ str (low 4 tx) ++ str (low 8 tx) ++ body ++ zer (232 - n) = str (fore k n id tx body.data.toList) := by
 apply text_ext
 simp only [text_app, str_list, zer, P5.fore, List.append_assoc]
theorem sector_ref (p : Pg) : sealOf (str p.fore) ++ str (low 4 p.tx.toNat) = p.sector := by
 apply text_ext
 rw [text_app, str_list, sealOf, text_app, str_list, tailOf, str_list, str_list, Pg.sector, str_list, Pg.laid, List.append_assoc]
theorem rLay_ok (w : World) (p : Pg) (h : p.ok) :
  Calls Tryz.prog 38 #[p.v] w fun r w' => r = .returned (.string p.sector) ∧ Below w.heap.size w w' := by
 have hR := sector_ref p
 have hS : (sealOf (str p.fore)).size = 252 := by rw [seal_size, str_size, p.fore_len h]
 have hF : (str p.fore).size = 248 := by rw [str_size, p.fore_len h]
 have HSe := fun w' => Lib.hid (rSeal_any w' (str p.fore) (by omega))
 have hst := RSt.start w p
 obtain ⟨k, id, tx, body⟩ := p
 obtain ⟨h1, h2, h3, h4, h5, h6, h7⟩ := h
 simp only at h1 h2 h3 h4 h5 h6 h7
 obtain ⟨k, rfl⟩ := Int.eq_ofNat_of_zero_le (show 0 ≤ k by omega)
 obtain ⟨id, rfl⟩ := Int.eq_ofNat_of_zero_le h3
 obtain ⟨tx, rfl⟩ := Int.eq_ofNat_of_zero_le h5
 have hz := zer_size (232 - body.size)
 have LL : ∀ (n v : Nat) (W : World), n ≤ 8 → v < 18446744073709551616 → RSt w w.heap.size ⟨k, id, tx, body⟩ W → Calls Tryz.prog 87 #[.int .u64 v, .int .i64 n] W fun r w' => r = .returned (.string (str (low n v))) ∧ RSt w w.heap.size ⟨k, id, tx, body⟩ w' :=
  fun n v W hn hv hW => (rLow_any W v n hv hn).mono fun _ _ ⟨a, d⟩ => ⟨a, hW.over d⟩
 have L1 := Lib.hid (show ∀ W, RSt w w.heap.size ⟨k, id, tx, body⟩ W → Calls Tryz.prog 87 #[.int .u64 k, .int .i64 1] W fun r w' => r = .returned (.string (str (low 1 k))) ∧ RSt w w.heap.size ⟨k, id, tx, body⟩ w' from fun W hW => LL 1 k W (by omega) (by omega) hW)
 have L2 := Lib.hid (show ∀ W, RSt w w.heap.size ⟨k, id, tx, body⟩ W → Calls Tryz.prog 87 #[.int .u64 body.size, .int .i64 1] W fun r w' => r = .returned (.string (str (low 1 body.size))) ∧ RSt w w.heap.size ⟨k, id, tx, body⟩ w' from fun W hW => LL 1 body.size W (by omega) (by omega) hW)
 have L3 := Lib.hid (show ∀ W, RSt w w.heap.size ⟨k, id, tx, body⟩ W → Calls Tryz.prog 87 #[.int .u64 id, .int .i64 2] W fun r w' => r = .returned (.string (str (low 2 id))) ∧ RSt w w.heap.size ⟨k, id, tx, body⟩ w' from fun W hW => LL 2 id W (by omega) (by omega) hW)
 have L4 := Lib.hid (show ∀ W, RSt w w.heap.size ⟨k, id, tx, body⟩ W → Calls Tryz.prog 87 #[.int .u64 tx, .int .i64 4] W fun r w' => r = .returned (.string (str (low 4 tx))) ∧ RSt w w.heap.size ⟨k, id, tx, body⟩ w' from fun W hW => LL 4 tx W (by omega) (by omega) hW)
 have L5 := Lib.hid (show ∀ W, RSt w w.heap.size ⟨k, id, tx, body⟩ W → Calls Tryz.prog 87 #[.int .u64 tx, .int .i64 8] W fun r w' => r = .returned (.string (str (low 8 tx))) ∧ RSt w w.heap.size ⟨k, id, tx, body⟩ w' from fun W hW => LL 8 tx W (by omega) (by omega) hW)
 have X4 := fun W => Lib.hid (show Calls Tryz.prog 87 #[.int .u64 tx, .int .i64 4] W fun r w' => r = .returned (.string (str (low 4 tx))) ∧ Below W.heap.size W w' from rLow_any W tx 4 (by omega) (by omega))
 have L6 := Lib.hid (show ∀ W, RSt w w.heap.size ⟨k, id, tx, body⟩ W → Calls Tryz.prog 86 #[.int .i64 (IntKind.i64.wrap (232 - (body.size : Int)))] W fun r w' => r = .returned (.string (zer (232 - body.size))) ∧ RSt w w.heap.size ⟨k, id, tx, body⟩ w' from
  fun W hW => by
   rw [show IntKind.i64.wrap ((232 : Int) - (body.size : Int)) = ((232 - body.size : Nat) : Int) by rw [IntKind.wrap_i64]; omega]
   exact (rZeros_any W (232 - body.size) (by omega)).mono fun _ _ ⟨a, d⟩ => ⟨a, hW.over d⟩)
 have L7 := Lib.hid (show ∀ W, RSt w w.heap.size ⟨k, id, tx, body⟩ W → Calls Tryz.prog 86 #[.int .i64 (232 - (body.size : Int))] W fun r w' => r = .returned (.string (zer (232 - body.size))) ∧ RSt w w.heap.size ⟨k, id, tx, body⟩ w' from
  fun W hW => by
   rw [show ((232 : Int) - (body.size : Int)) = ((232 - body.size : Nat) : Int) by omega]
   exact (rZeros_any W (232 - body.size) (by omega)).mono fun _ _ ⟨a, d⟩ => ⟨a, hW.over d⟩)
 have y1 : ¬ 9223372036854775807 < 16 + body.size := by omega
 have y2 : ¬ 9223372036854775807 < 16 + body.size + (232 - body.size) := by omega
 have CE := Lib.hid (show ∀ W, RSt w w.heap.size ⟨k, id, tx, body⟩ W → PCells W w.heap.size ⟨k, id, tx, body⟩ from fun W hW => Pg.pcells hW.page)
 have BE := Lib.hid (show ∀ W, RSt w w.heap.size ⟨k, id, tx, body⟩ W → Below w.heap.size w W from fun W hW => hW.below)
 have eF := fore_ref k body.size id tx body
 rw [show str (fore k body.size id tx body.data.toList) = str (Pg.mk k id tx body).fore from rfl] at eF
 generalize str (Pg.mk k id tx body).fore = F at HSe hR hS hF eF
 generalize (Pg.mk k id tx body).sector = R at hR
 rw [show (Pg.mk (k : Int) id tx body).tx.toNat = tx from rfl] at hR
 have z1 : (str (low 1 k)).size = 1 := by rw [str_size, low_length]
 have z2 : (str (low 1 body.size)).size = 1 := by rw [str_size, low_length]
 have z3 : (str (low 2 id)).size = 2 := by rw [str_size, low_length]
 have z4 : (str (low 4 tx)).size = 4 := by rw [str_size, low_length]
 have z5 : (str (low 8 tx)).size = 8 := by rw [str_size, low_length]
 generalize str (low 1 k) = s1 at L1 eF z1
 generalize str (low 1 body.size) = s2 at L2 eF z2
 generalize str (low 2 id) = s3 at L3 eF z3
 generalize str (low 4 tx) = s4 at L4 eF z4 hR X4
 generalize str (low 8 tx) = s5 at L5 eF z5
 generalize zer (232 - body.size) = Z at L6 L7 hz eF
 generalize sealOf F = G at HSe hR hS
 have HE := Lib.hid hR
 have HF := Lib.hid eF
 have w1 : IntKind.u64.wrap (k : Int) = k := by rw [IntKind.wrap_u64]; omega
 have w2 : IntKind.u64.wrap (id : Int) = id := by rw [IntKind.wrap_u64]; omega
 have w3 : IntKind.u64.wrap (tx : Int) = tx := by rw [IntKind.wrap_u64]; omega
 have w4 : IntKind.u64.wrap (body.size : Int) = body.size := by rw [IntKind.wrap_u64]; omega
 clear h1 h2 h3 h4 h5 h6 hR LL eF
 have q0 := CE.out _ hst
 have q0d := CE.out _ hst.drew
 have hstd := hst.drew
 have m0 := BE.out _ hst
 unfold PCells at CE q0 q0d
 simp only at q0 q0d
 unfold Pg.v Pg.cells at *
 go_enter Tryz.func38, Tryz.ntmps38
 go_wp2
 go_region_held3 (fun w' => w'.cell? ⟨w.heap.size, 0, none⟩ = some (.int .i64 k) ∧ w'.cell? ⟨w.heap.size, 1, none⟩ = some (.int .i64 id) ∧ w'.cell? ⟨w.heap.size, 2, none⟩ = some (.int .i64 tx) ∧ w'.cell? ⟨w.heap.size, 3, none⟩ = some (.string body)) (first | exact q0 | exact q0d | exact CE.out _ (by assumption))
  ((first
   | (go_at_call 87; rw [w1]; (with_reducible refine (L1.out _ (by assumption)).mono ?_); rintro e w5 ⟨rfl, st1⟩)
   | (go_at_call 87; rw [w4]; (with_reducible refine (L2.out _ (by assumption)).mono ?_); rintro e w5 ⟨rfl, st1⟩)
   | (go_at_call 87; rw [w2]; (with_reducible refine (L3.out _ (by assumption)).mono ?_); rintro e w5 ⟨rfl, st1⟩)
   | (go_at_call 87; rw [w3]; (with_reducible refine (L4.out _ (by assumption)).mono ?_); rintro e w5 ⟨rfl, st1⟩)
   | (go_at_call 87; (with_reducible refine (L1.out _ (by assumption)).mono ?_); rintro e w5 ⟨rfl, st1⟩)
   | (go_at_call 87; (with_reducible refine (L2.out _ (by assumption)).mono ?_); rintro e w5 ⟨rfl, st1⟩)
   | (go_at_call 87; (with_reducible refine (L3.out _ (by assumption)).mono ?_); rintro e w5 ⟨rfl, st1⟩)
   | (go_at_call 87; (with_reducible refine (L4.out _ (by assumption)).mono ?_); rintro e w5 ⟨rfl, st1⟩)
   | (go_at_call 87; (with_reducible refine (L5.out _ (by assumption)).mono ?_); rintro e w5 ⟨rfl, st1⟩)
   | (go_at_call 86; (with_reducible refine (L6.out _ (by assumption)).mono ?_); rintro e w5 ⟨rfl, st1⟩)
   | (go_at_call 86; (with_reducible refine (L7.out _ (by assumption)).mono ?_); rintro e w5 ⟨rfl, st1⟩)))
 have HR : Hid (∀ W, RSt w w.heap.size ⟨k, id, tx, body⟩ W → ∀ W2, Below W.heap.size W W2 → ∀ W3, Below W2.heap.size W2 W3 → Below w.heap.size w W3) := fun W hW W2 h2 W3 h3 => thenBelow (thenBelow hW.below h2) h3
 clear hst hstd m0 q0 q0d
 rw [HF.out]
 go_wp2_with (first
  | (go_at_call 88; (with_reducible refine (HSe _).out.mono ?_); rintro e w6 ⟨rfl, hb6⟩)
  | (go_at_call 87; (with_reducible refine (X4 _).out.mono ?_); rintro e w7 ⟨rfl, hb7⟩))
 go_ret
 rw [HE.out]
 exact ⟨rfl, HR.out _ (by assumption) _ hb6 _ hb7⟩
end Go.Proofs.YtbkngnjkaledlaaGreat.P5
namespace Go.Proofs.YtbkngnjkaledlaaGreat.P8
open Go Go.RowKit Go.Lib Go.Maps Go.ChangeMaps Go.MapKept P3 P4
open P5 (zer rZeros_any)
theorem SzK.both {w : World} {d : Nat} {K : Dk} {D : RM} {ks : List Int} {s : ByteArray} {m : Nat} (h : SzK K s m) (hE : Eqv K D ks) (hK : DiskAt w d K) : sizeR D s = m ∧ (P4.errR D s = 0 ∨ P4.errR D s = 8) := by
 obtain ⟨h1, h2, h3⟩ := h
 have he := hE.errF hK s
 constructor
 ·rw [← hE.sizeF hK s, ← h3]
  unfold P4.sizeF sizeN
  rw [if_pos h2]
  cases getF K.files s.data.toList <;> rfl
 ·rw [← he]
  unfold P4.errF
  rw [if_pos h2]
  split
  ·exact .inr rfl
  ·exact .inl rfl
structure FB (a W : World) (b r : Nat) (s : ByteArray) (D : RM) (ks : List Int) : Prop where
 at' : RAt a.heap.size W r D
 blk : W.heap[b]? = some (.cells #[.pointer (some ⟨r, 0, none⟩), .string s] 38 (0, 0))
 apart : ¬ D.own r b
 kv : IntsIn a D.kv ks
 below : Below a.heap.size a W
section
variable {a W W' : World} {b r d : Nat} {s : ByteArray} {D D1 : RM} {K K1 K2 : Dk} {ks : List Int} {l : List (Int × ByteArray)} {z : Int}
theorem FB.over (h : FB a W b r s D ks) (hb : Below W.heap.size W W') : FB a W' b r s D ks :=
 ⟨h.at'.below hb, (hb.block b (P3.lt_of_block h.blk)).trans h.blk, h.apart, h.kv, thenBelow h.below hb⟩
theorem FB.step (h : FB a W b r s D ks) (k : RStep a.heap.size W r D W' D1) (hkv : D1.kv = D.kv) : FB a W' b r s D1 ks := by
 have hlt := P3.lt_of_block h.blk
 refine ⟨k.at', (k.fr.block b hlt h.apart).trans h.blk, fun q => ?_, by rw [hkv]; exact h.kv, Fr.new h.below k.fr fun q hq => (h.at'.own_lt hq).1⟩
 rcases k.own b q with e | e
 ·exact h.apart e
 ·omega
theorem FB.cells (h : FB a W b r s D ks) : W.cell? ⟨b, 0, none⟩ = some (.pointer (some ⟨r, 0, none⟩)) ∧ W.cell? ⟨b, 1, none⟩ = some (.string s) := ⟨by rw [cell_at h.blk]; rfl, by rw [cell_at h.blk]; rfl⟩
theorem FB.ints (h : FB a W b r s D ks) : ∀ S : Nat → Prop, (∀ k, S k → a.heap.size ≤ k) → IntsR S W D.kv ks := fun _ hS => ints_over h.below h.kv hS
def Run (a W0 W : World) (b r d : Nat) (s : ByteArray) (D0 D : RM) (ks : List Int) (K : Dk) (m : Nat) (e : Int) (l : List (Int × ByteArray)) (z : Int) (K2 : Dk) : Prop :=
 FB a W b r s D ks ∧ RStep a.heap.size W0 r D0 W D ∧ Eqv K D ks ∧ ((e = 0 ∧ SzK K s m ∧ WTr d s K l z K2) ∨ (e ≠ 0 ∧ z = e ∧ K2 = K))
theorem Run.over {W0 : World} {D0 : RM} {e : Int} {m : Nat} (h : Run a W0 W b r d s D0 D ks K m e l z K2) (hb : Below W.heap.size W W') : Run a W0 W' b r d s D0 D ks K m e l z K2 :=
 ⟨h.1.over hb, h.2.1.trans (RStep.below h.1.at' hb), h.2.2.1, h.2.2.2⟩
theorem Run.rat {W0 : World} {D0 : RM} {e : Int} {m : Nat} (h : Run a W0 W b r d s D0 D ks K m e l z K2) : RAt a.heap.size W r D := h.1.at'
theorem Run.any {W0 : World} {D0 : RM} {e : Int} {m m' : Nat} {l' : List (Int × ByteArray)} (h : Run a W0 W b r d s D0 D ks K m e l z K2) (he : e ≠ 0) : Run a W0 W b r d s D0 D ks K m' e l' z K2 :=
 ⟨h.1, h.2.1, h.2.2.1, .inr (by
  rcases h.2.2.2 with ⟨q, _⟩ | q
  ·exact absurd q he
  ·exact q)⟩
theorem Run.both {W0 : World} {D0 : RM} {m : Nat} {x : Int × ByteArray} (h : Run a W0 W b r d s D0 D ks K m 0 (x :: l) z K2) : sizeR D s = m ∧ (P4.errR D s = 0 ∨ P4.errR D s = 8) := by
 rcases h.2.2.2 with ⟨_, hs, h4⟩ | ⟨q, _⟩
 ·obtain ⟨y, K1, w0, w1, hK, _⟩ := h4.inv
  exact hs.both h.2.2.1 hK
 ·exact absurd rfl q
theorem Run.write {W0 : World} {D0 : RM} {m : Nat} {i : Int} {data : ByteArray} (h : Run a W0 W b r d s D0 D ks K m 0 ((i, data) :: l) z K2) :
  Calls Tryz.prog 37 #[.pointer (some ⟨r, 0, none⟩), .string s, .int .i64 i, .string data] W fun e w2 => ∃ y D1 K1, e = .returned (.int .i64 y) ∧ Run a W0 w2 b r d s D0 D1 ks K1 (max m (i.toNat + 1)) y l z K2 := by
 obtain ⟨h1, h2, h3, h4⟩ := h
 rcases h4 with ⟨_, hs, h4⟩ | ⟨q, _⟩
 ·obtain ⟨y, K1, w0, w1, hK, ht, hdm, hwk, hrest⟩ := h4.inv
  refine (pair_write hK h3 ht s i data hdm hwk h1.at' h1.ints).mono ?_
  rintro e w2 ⟨rfl, D1, q1, q2, q3, _⟩
  refine ⟨y, D1, K1, rfl, h1.step q1 q3, h2.trans q1, q2, ?_⟩
  rcases hrest with ⟨rfl, hr⟩ | hr
  ·exact .inl ⟨rfl, (hs.write hwk).1, hr⟩
  ·exact .inr hr
 ·exact absurd rfl q
theorem Run.fill {W0 : World} {D0 : RM} {x : Int × ByteArray} (n m : Nat) (hn : n ≤ 100000) (hs : m ≤ 100000) (h : Run a W0 W b r d s D0 D ks K m 0 (zerosW (zer 256) m n ++ x :: l) z K2) :
  Calls Tryz.prog 36 #[.pointer (some ⟨b, 0, none⟩), .int .i64 n] W fun e w2 => ∃ y D1 K1, e = .returned (.int .i64 y) ∧ Run a W0 w2 b r d s D0 D1 ks K1 (max m n) y (x :: l) z K2 := by
 have hse : sizeR D s = m ∧ (P4.errR D s = 0 ∨ P4.errR D s = 8) := by
  by_cases q : m < n
  ·rw [zerosW_next q] at h; exact h.both
  ·rw [zerosW_done (by omega)] at h; exact h.both
 obtain ⟨hm, he⟩ := hse
 obtain ⟨l', hl'⟩ : ∃ l', l' = x :: l := ⟨_, rfl⟩
 rw [← hl'] at h ⊢
 clear hl'
 have HZ : Hid (∀ W, Calls Tryz.prog 86 #[.int .i64 256] W fun e w' => e = .returned (.string (zer 256)) ∧ Below W.heap.size W w') := fun W => rZeros_any W 256 (by omega)
 obtain ⟨e0, he0⟩ : ∃ e0, e0 = P4.errR D s := ⟨_, rfl⟩
 rw [← he0] at he
 have H := Lib.hid h
 have HD := Lib.hid (h.over (Below.refl _ _).drew)
 have HC : Hid (∀ W' D' K' m' e' l', Run a W0 W' b r d s D0 D' ks K' m' e' l' z K2 → W'.cell? ⟨b, 0, none⟩ = some (.pointer (some ⟨r, 0, none⟩)) ∧ W'.cell? ⟨b, 1, none⟩ = some (.string s)) := fun _ _ _ _ _ _ k => k.1.cells
 have HSz2 : Hid (∀ W', RAt a.heap.size W' r D → Calls Tryz.prog 21 #[.pointer (some ⟨r, 0, none⟩), .string s] W' fun e w' => e = .returned (.tuple #[.int .i64 m, .int .i64 e0]) ∧ Below W'.heap.size W' w') := fun W' hb => by rw [← hm, he0]; exact hb.size s
 clear h hm he0
 go_enter Tryz.func36, Tryz.ntmps36
 go_upto_region 1 with fail
 go_cut [5, 6] from 7 to 18 (fun v e W' => v = .int .i64 m ∧ e = .int .i64 e0 ∧ Hid (Run a W0 W' b r d s D0 D ks K m 0 (zerosW (zer 256) m n ++ l') z K2))
 case first =>
  go_region_held3 (fun W' => W'.cell? ⟨b, 0, none⟩ = some (.pointer (some ⟨r, 0, none⟩)) ∧ W'.cell? ⟨b, 1, none⟩ = some (.string s)) (first | exact HC.out _ _ _ _ _ _ H.out | exact HC.out _ _ _ _ _ _ HD.out | exact HC.out _ _ _ _ _ _ H2.out)
   ((go_at_call 21; (with_reducible refine (HSz2.out _ (by first | exact HD.out.rat | exact H.out.rat)).mono ?_); rintro e w2 ⟨rfl, hb⟩; have H2 := Lib.hid (show Run a W0 w2 b r d s D0 D ks K m 0 (zerosW (zer 256) m n ++ l') z K2 from (by first | exact HD.out.over hb | exact H.out.over hb)); clear hb))
  all_goals
   go_wp2
   go_meet
   exact ⟨rfl, rfl, H2⟩
 case rest =>
  obtain ⟨rfl, rfl, HR⟩ := hcut
  clear H HD HSz2
  have hee : Hid (∀ y m1 m2 l1 l2 D' K' W', y ≠ 0 → Run a W0 W' b r d s D0 D' ks K' m1 y l1 z K2 → Run a W0 W' b r d s D0 D' ks K' m2 y l2 z K2) := fun _ _ _ _ _ _ _ _ hy k => k.any hy
  rcases he with rfl | rfl
  all_goals
   go_wp2
   go_loopw [5, 6] (fun vk ve wr => ∃ (j : Nat) (y : Int) (D1 : RM) (K1 : Dk), m ≤ j ∧ j ≤ max m n ∧ vk = .int .i64 j ∧ ve = .int .i64 y ∧ Hid (y = 0 → Run a W0 wr b r d s D0 D1 ks K1 j 0 (zerosW (zer 256) j n ++ l') z K2) ∧ Hid (y ≠ 0 → Run a W0 wr b r d s D0 D1 ks K1 (max m n) y l' z K2)) (fun vk _ _ => n - (RowKit.intOf vk).toNat)
   case atStart => exact ⟨m, 0, D, K, by omega, by omega, rfl, rfl, fun _ => HR.out, fun q => absurd rfl q⟩
   case round =>
    clear HR
    obtain ⟨j, y, D1, K1, hmj, hj, rfl, rfl, H0, H1⟩ := hrel
    by_cases hy : y = 0
    ·subst hy
     by_cases hlt : j < n
     ·have hR0 := H0.out rfl
      rw [zerosW_next hlt] at hR0
      have HR0 := Lib.hid (show Run a W0 wr b r d s D0 D1 ks K1 j 0 (((j : Int), zer 256) :: (zerosW (zer 256) (j + 1) n ++ l')) z K2 from hR0)
      have HRd := Lib.hid (HR0.out.over (Below.refl _ _).drew)
      have j1 : (j : Int) < (n : Int) := by omega
      have j0 : (0 : Int) ≤ (j : Int) := by omega
      clear hR0 H0 H1
      go_upto_region 5 with fail
      go_region_held3 (fun W' => W'.cell? ⟨b, 0, none⟩ = some (.pointer (some ⟨r, 0, none⟩)) ∧ W'.cell? ⟨b, 1, none⟩ = some (.string s)) (first | exact HC.out _ _ _ _ _ _ HR0.out | exact HC.out _ _ _ _ _ _ HRd.out | exact HC.out _ _ _ _ _ _ HR2.out | exact HC.out _ _ _ _ _ _ HR3.out) ((first
       | (go_at_call 86; (with_reducible refine (HZ.out _).mono ?_); rintro e w2 ⟨rfl, hb⟩; have HR2 := Lib.hid (show Run a W0 w2 b r d s D0 D1 ks K1 j 0 (((j : Int), zer 256) :: (zerosW (zer 256) (j + 1) n ++ l')) z K2 from (by first | exact HRd.out.over hb | exact HR0.out.over hb)); clear hb)
       | (go_at_call 37; (with_reducible refine (HR2.out.write).mono ?_); rintro e w3 ⟨y2, D2, K3, rfl, h⟩; rw [show max j ((j : Int).toNat + 1) = j + 1 by omega] at h; have HR3 := Lib.hid h; clear h)))
      all_goals
       go_wp2
       go_roundw
       case rel => exact ⟨j + 1, y2, D2, K3, by omega, by omega, by go_num, rfl, fun q => (by subst q; exact HR3.out), fun q => hee.out _ _ _ _ _ _ _ _ q HR3.out⟩
       case measure => simp [RowKit.intOf]; omega
     ·have hR0 := H0.out rfl
      rw [zerosW_done (by omega)] at hR0
      have hjm : j = max m n := by omega
      have HE0 := Lib.hid (show Run a W0 wr b r d s D0 D1 ks K1 (max m n) 0 l' z K2 from hjm ▸ hR0)
      have j1 : decide ((j : Int) < (n : Int)) = false := decide_eq_false (by omega)
      clear hR0 H0 H1 hlt
      go_wp2
      go_ret
      exact ⟨0, D1, K1, rfl, HE0.out⟩
    ·have hy2 : (y == 0) = false := beq_eq_false_iff_ne.2 hy
     have HE1 := Lib.hid (H1.out hy)
     clear H0 H1 hy
     go_wp2
     go_ret
     exact ⟨y, D1, K1, rfl, HE1.out⟩
end
end Go.Proofs.YtbkngnjkaledlaaGreat.P8
namespace Go.Proofs.YtbkngnjkaledlaaGreat.P8
open Go Go.RowKit Go.Lib P3
theorem int_load (a : Addr) (n : Int) (w : World) (hc : w.cell? a = some (.int .i64 n)) :
  Calls Tryz.prog 110 #[.pointer (some a)] w fun e w' => e = .returned (.int .i64 n) ∧ w = w' := by
 have hl := run_call_load (P := Tryz.prog) Tryz.func141 (by kernel_rfl) (by kernel_rfl) (by kernel_rfl) .i64 (by kernel_rfl) hc
 go_enter Tryz.func110, Tryz.ntmps110
 go_wp2
 go_ret
 exact ⟨rfl, rfl⟩
theorem int_add (a : Addr) (n d : Int) (w : World) (hc : w.cell? a = some (.int .i64 n)) (hz : w.frozen? a = false) :
  Calls Tryz.prog 106 #[.pointer (some a), .int .i64 d] w fun e w' => e = .returned (.int .i64 (wrap64 (n + d))) ∧ w' = w.setCell a (.int .i64 (wrap64 (n + d))) := by
 have hadd := run_call_add (P := Tryz.prog) Tryz.func139 (by kernel_rfl) (by kernel_rfl) (by kernel_rfl) .i64 (by kernel_rfl) (y := d) (s := wrap64 (n + d)) hc hz (by simp [go_sem, wrap64, IntKind.wrap_i64])
 go_enter Tryz.func106, Tryz.ntmps106
 go_wp2
 go_ret
 exact ⟨rfl, rfl⟩
theorem ct_add (w : World) (p : Addr) (n d : Int) (hc : w.cell? p = some (.int .i64 n)) (hz : w.frozen? p = false) :
  Calls Tryz.prog 68 #[.pointer (some p), .int .i64 d] w fun e w' => e = .returned (.int .i64 (wrap64 (n + d))) ∧ w' = w.setCell p (.int .i64 (wrap64 (n + d))) := by
 go_enter Tryz.func68, Tryz.ntmps68
 go_wp2_with (go_at_call 106; refine (int_add _ n d _ hc hz).mono ?_; rintro e w' ⟨rfl, rfl⟩)
 go_ret
 exact ⟨rfl, rfl⟩
theorem ct_now (w : World) (p : Addr) (n : Int) (hc : w.cell? p = some (.int .i64 n)) :
  Calls Tryz.prog 72 #[.pointer (some p)] w fun e w' => e = .returned (.int .i64 n) ∧ w = w' := by
 go_enter Tryz.func72, Tryz.ntmps72
 go_wp2_with (go_at_call 110; refine (int_load _ n _ hc).mono ?_; rintro e w' ⟨rfl, rfl⟩)
 go_ret
 exact ⟨rfl, rfl⟩
end Go.Proofs.YtbkngnjkaledlaaGreat.P8
namespace Go.Proofs.YtbkngnjkaledlaaGreat.P8
open Go Go.RowKit Go.Lib Go.Maps Go.ChangeMaps Go.MapKept P3 P4
def StAt (w : World) (b d : Nat) (s : ByteArray) (n : Int) : Prop := w.heap[b]? = some (.cells #[.pointer (some ⟨d, 0, none⟩), .string s, .int .i64 n] 84 (0, 0))
section
variable {w w' : World} {b d : Nat} {s : ByteArray} {n : Int} {K : Dk}
theorem StAt.lt (h : StAt w b d s n) : b < w.heap.size := P3.lt_of_block h
theorem StAt.c0 (h : StAt w b d s n) : w.cell? ⟨b, 0, none⟩ = some (.pointer (some ⟨d, 0, none⟩)) := by rw [P3.cell_at h]; rfl
theorem StAt.c1 (h : StAt w b d s n) : w.cell? ⟨b, 1, none⟩ = some (.string s) := by rw [P3.cell_at h]; rfl
theorem StAt.c2 (h : StAt w b d s n) : w.cell? ⟨b, 2, none⟩ = some (.int .i64 n) := by rw [P3.cell_at h]; rfl
theorem StAt.free (h : StAt w b d s n) : w.frozen? ⟨b, 2, none⟩ = false := P3.free_at h 2
theorem StAt.set (h : StAt w b d s n) (m : Int) : StAt (w.setCell ⟨b, 2, none⟩ (.int .i64 m)) b d s m := by
 unfold StAt; rw [P3.set_at h]; rfl
theorem StAt.below (h : StAt w b d s n) (hb : Below w.heap.size w w') : StAt w' b d s n := P3.old_below h hb
theorem StAt.fr {S : Nat → Prop} (h : StAt w b d s n) (hf : Fr S w w') (hb : ¬ S b) : StAt w' b d s n := hf.keep h hb
def SD (w : World) (b d : Nat) (s : ByteArray) (n : Int) (K : Dk) : Prop := StAt w b d s n ∧ DiskAt w d K ∧ ¬ K.foot d b
theorem SD.below (h : SD w b d s n K) (hb : Below w.heap.size w w') : SD w' b d s n K := ⟨h.1.below hb, h.2.1.below hb, h.2.2⟩
theorem SD.fr {S : Nat → Prop} (h : SD w b d s n K) (hf : Fr S w w') (hb : ¬ S b) (hS : ∀ k, K.foot d k → ¬ S k) : SD w' b d s n K := ⟨h.1.fr hf hb, h.2.1.fr hf hS, h.2.2⟩
theorem SD.step {K' : Dk} (h : SD w b d s n K) (k : Step w d K w' K') : SD w' b d s n K' :=
 ⟨h.1.fr k.fr h.2.2, k.at', fun q => (k.foot b q).elim h.2.2 fun q => by have := h.1.lt; omega⟩
theorem SD.cells (h : SD w b d s n K) : w.cell? ⟨b, 0, none⟩ = some (.pointer (some ⟨d, 0, none⟩)) ∧ w.cell? ⟨b, 1, none⟩ = some (.string s) := ⟨h.1.c0, h.1.c1⟩
theorem named_any (w : World) (s : ByteArray) (hs : s.size ≤ maxLen) :
  Calls Tryz.prog 30 #[.string s] w fun e w' => e = .returned (.bool (decide (1 ≤ s.size ∧ s.size ≤ 40))) ∧ Below w.heap.size w w' := by
 have HN := Lib.hid (fun w => new_disk w 0)
 have HS : Hid (∀ W, DiskAt W w.heap.size (Dk.new 0) → Calls Tryz.prog 73 #[.pointer (some ⟨w.heap.size, 0, none⟩), .string s] W fun e w' => e = .returned (.tuple #[.int .i64 0, .int .i64 (if 1 ≤ s.size ∧ s.size ≤ 40 then 8 else 1)]) ∧ Below W.heap.size W w') := fun W k => by
  have h1 := k.sizeOf s hs
  have e1 : sizeF (Dk.new 0).on s.size (getF (Dk.new 0).files s.data.toList) = 0 := by unfold sizeF; split <;> rfl
  have e2 : errF (Dk.new 0).on s.size (getF (Dk.new 0).files s.data.toList) = if 1 ≤ s.size ∧ s.size ≤ 40 then 8 else 1 := by
   show errF true s.size none = _
   by_cases q : 1 ≤ s.size ∧ s.size ≤ 40
   ·have e : errn true s.size = 0 := by unfold errn; rw [if_neg (by decide), if_neg (by omega)]
    unfold errF
    rw [if_pos q, if_pos e]
   ·have e : errn true s.size = 1 := by unfold errn; rw [if_neg (by decide), if_pos (by omega)]
    unfold errF
    rw [if_neg q, e]
    rfl
  rw [e1, e2] at h1
  exact h1
 obtain ⟨z, hz⟩ : ∃ z : Int, z = if 1 ≤ s.size ∧ s.size ≤ 40 then 8 else 1 := ⟨_, rfl⟩
 rw [← hz] at HS
 have hq : (z != 1) = decide (1 ≤ s.size ∧ s.size ≤ 40) := by
  by_cases q : 1 ≤ s.size ∧ s.size ≤ 40
  ·rw [if_pos q] at hz; rw [hz, decide_eq_true q]; rfl
  ·rw [if_neg q] at hz; rw [hz, decide_eq_false q]; rfl
 obtain ⟨B, hB⟩ : ∃ B, B = decide (1 ≤ s.size ∧ s.size ≤ 40) := ⟨_, rfl⟩
 rw [← hB] at hq ⊢
 clear hz hB hs
 go_enter Tryz.func30, Tryz.ntmps30
 go_wp2_with (first
  | (go_at_call 7; (with_reducible refine (HN.out _).mono ?_); rintro e w1 ⟨rfl, hb, hn⟩; have HB := Lib.hid hb; have HD := Lib.hid (new_at_disk hn); clear hb hn)
  | (go_at_call 73; (with_reducible refine (HS.out _ HD.out).mono ?_); rintro e w2 ⟨rfl, hb⟩; have HC := Lib.hid (thenBelow HB.out hb); clear hb))
 go_ret
 exact ⟨rfl, HC.out⟩
theorem open_bad (w : World) (d : Nat) (s : ByteArray) (hs : s.size ≤ maxLen) (h : ¬ (1 ≤ s.size ∧ s.size ≤ 40)) : Calls Tryz.prog 8 #[.pointer (some ⟨d, 0, none⟩), .string s] w fun e w' => e = .returned (.tuple #[.pointer none, .int .i64 1]) ∧ Below w.heap.size w w' := by
 have HN := named_any w s hs
 rw [decide_eq_false h] at HN
 have HN := Lib.hid HN
 go_enter Tryz.func8, Tryz.ntmps8
 go_wp2_with (go_at_call 30; (with_reducible refine HN.out.mono ?_); rintro e w1 ⟨rfl, hb⟩; have HB := Lib.hid hb; clear hb)
 go_ret2
 exact ⟨rfl, HB.out⟩
theorem open_ok (hK : DiskAt w d K) (s : ByteArray) (h1 : 1 ≤ s.size) (h2 : s.size ≤ 40) (hon : K.on = true) : Calls Tryz.prog 8 #[.pointer (some ⟨d, 0, none⟩), .string s] w fun e w' => ∃ b, e = .returned (.tuple #[.pointer (some ⟨b, 0, none⟩), .int .i64 0]) ∧ w.heap.size ≤ b ∧ SD w' b d s 0 K ∧ Below w.heap.size w w' := by
 have HN := named_any w s (by unfold maxLen; omega)
 rw [decide_eq_true ⟨h1, h2⟩] at HN
 have HN := Lib.hid HN
 have HO : Hid (∀ W, Below w.heap.size w W → Calls Tryz.prog 31 #[.pointer (some ⟨d, 0, none⟩)] W fun e w' => e = .returned (.bool true) ∧ W = w') := fun W hb => on_any W d true (by rw [P3.cell_at (hK.below hb).blk]; show some (Value.bool K.on) = _; rw [hon])
 have HC : Hid (∀ W, Calls Tryz.prog 32 #[.string s] W fun e w' => e = .returned (.string s) ∧ Below W.heap.size W w') := fun W => clone_any s W (by omega)
 have HE : Hid (∀ W, Below w.heap.size w W → SD (W.alloc (.cells #[.pointer (some ⟨d, 0, none⟩), .string s, .int .i64 0] 84)) W.heap.size d s 0 K ∧ w.heap.size ≤ W.heap.size ∧ Below w.heap.size w (W.alloc (.cells #[.pointer (some ⟨d, 0, none⟩), .string s, .int .i64 0] 84))) := fun W hb =>
  ⟨⟨P3.new_at W _ _, (hK.below hb).below (P3.below_new W _), fun q => Nat.lt_irrefl _ (Nat.lt_of_lt_of_le (hK.foot_lt _ q) hb.size)⟩, hb.size, P3.grow hb _⟩
 clear hK hon
 go_enter Tryz.func8, Tryz.ntmps8
 go_wp2_with (first
  | (go_at_call 30; (with_reducible refine HN.out.mono ?_); rintro e w1 ⟨rfl, hb⟩; have HB := Lib.hid hb; clear hb)
  | (go_at_call 31; (with_reducible refine (HO.out _ HB.out).mono ?_); rintro e w2 ⟨rfl, rfl⟩)
  | (go_at_call 32; (with_reducible refine (HC.out _).mono ?_); rintro e w3 ⟨rfl, hb⟩; have HB2 := Lib.hid (thenBelow HB.out hb); clear hb))
 go_ret2
 exact ⟨_, rfl, (HE.out _ HB2.out).2.1, (HE.out _ HB2.out).1, (HE.out _ HB2.out).2.2⟩
theorem StAt.name (h : StAt w b d s n) : Calls Tryz.prog 27 #[.pointer (some ⟨b, 0, none⟩)] w fun e w' => e = .returned (.string s) ∧ w = w' := by
 have c1 := h.c1
 clear h
 go_enter Tryz.func27, Tryz.ntmps27
 go_wp2
 go_ret
 exact ⟨rfl, rfl⟩
theorem StAt.reads (h : StAt w b d s n) : Calls Tryz.prog 22 #[.pointer (some ⟨b, 0, none⟩)] w fun e w' => e = .returned (.int .i64 n) ∧ w = w' := by
 have c2 := h.c2
 clear h
 go_enter Tryz.func22, Tryz.ntmps22
 go_wp2_with (go_at_call 72; refine (ct_now _ _ n c2).mono ?_; rintro e w' ⟨rfl, rfl⟩)
 go_ret
 exact ⟨rfl, rfl⟩
theorem SD.size (h : SD w b d s n K) (hs : s.size ≤ maxLen) : Calls Tryz.prog 23 #[.pointer (some ⟨b, 0, none⟩)] w fun e w' => e = .returned (.int .i64 (sizeF K.on s.size (getF K.files s.data.toList))) ∧ Below w.heap.size w w' := by
 obtain ⟨z, hz⟩ : ∃ z, z = sizeF K.on s.size (getF K.files s.data.toList) := ⟨_, rfl⟩
 obtain ⟨y, hy⟩ : ∃ y, y = errF K.on s.size (getF K.files s.data.toList) := ⟨_, rfl⟩
 have HS : Hid (∀ W, SD W b d s n K → Calls Tryz.prog 73 #[.pointer (some ⟨d, 0, none⟩), .string s] W fun e w' => e = .returned (.tuple #[.int .i64 z, .int .i64 y]) ∧ Below W.heap.size W w') := fun W k => by rw [hz, hy]; exact k.2.1.sizeOf s hs
 rw [← hz]
 clear hz hy
 have HA := Lib.hid h
 have HD := Lib.hid (h.below (Below.refl _ _).drew)
 have HX : Hid (∀ W, SD W b d s n K → W.cell? ⟨b, 0, none⟩ = some (.pointer (some ⟨d, 0, none⟩)) ∧ W.cell? ⟨b, 1, none⟩ = some (.string s)) := fun _ k => k.cells
 have HB1 := Lib.hid (Below.refl w.heap.size w)
 have HB2 := Lib.hid (Below.refl w.heap.size w).drew
 clear h
 go_enter Tryz.func23, Tryz.ntmps23
 go_upto_region 3 with fail
 go_region_held3 (fun W' => W'.cell? ⟨b, 0, none⟩ = some (.pointer (some ⟨d, 0, none⟩)) ∧ W'.cell? ⟨b, 1, none⟩ = some (.string s)) (first | exact HX.out _ HA.out | exact HX.out _ HD.out | exact HX.out _ H2.out)
  ((go_at_call 73; (with_reducible refine (HS.out _ (by first | exact HD.out | exact HA.out)).mono ?_); rintro e w2 ⟨rfl, hb⟩; have H2 := Lib.hid (show SD w2 b d s n K from (by first | exact HD.out.below hb | exact HA.out.below hb)); have HB := Lib.hid (show Below w.heap.size w w2 from (by first | exact thenBelow HB2.out hb | exact thenBelow HB1.out hb)); clear hb))
 all_goals
  go_wp2
  go_ret
  exact ⟨rfl, HB.out⟩
end
end Go.Proofs.YtbkngnjkaledlaaGreat.P8
