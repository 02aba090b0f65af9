/-
  Texts of the proof of SaidPlay8b.
-/
import Derived.Test.YtbkngnjkaledlaaGreatMp41
set_option maxHeartbeats 8000000
set_option maxRecDepth 100000
namespace Go.Proofs.YtbkngnjkaledlaaGreat.P4
open Go Go.RowKit Go.Lib Go.Maps Go.ChangeMaps Go.MapKept P3
section
variable {a w w' w1 w2 : World} {d r : Nat} {K K1 : Dk} {D D1 : RM} {ks : List Int}
theorem act_7 (h : Pr a w d K r D ks) (ht : K.turn < 8990) (o : OpV) (ho : ActOk a o) (hlen : o.L.length ≤ 10000) (hk : o.kind = 7) :
  Calls Tryz.prog 16 #[.pointer (some ⟨d, 0, none⟩), .pointer (some ⟨r, 0, none⟩), .agg o.cells] w (ActP a w d K r D) := by
 obtain ⟨kind, S, T, A, B, own, p, c, L⟩ := o
 obtain rfl : kind = 7 := hk
 have HF := Lib.hid (fun W => fill_any S ho.S own W)
 have HC := Lib.hid (h.boxedU fun W hW => two_restore hW)
 have HR : Hid (∀ W, Below w.heap.size w W → Calls Tryz.prog 21 #[.pointer (some ⟨r, 0, none⟩), .string T] W fun e w' => e = .returned (.tuple #[.int .i64 (sizeR D T), .int .i64 (errR D T)]) ∧ Below W.heap.size W w') := fun W hW => (h.over hW).at2.size T
 clear h ht ho hlen
 go_enter Tryz.func16, Tryz.ntmps16
 go_upto_region 1 with (fail)
 have hB0 : (w.alloc (.cells (OpV.cells ⟨7, S, T, A, B, own, p, c, L⟩) 43)).heap[w.heap.size]? = some (.cells (OpV.cells ⟨7, S, T, A, B, own, p, c, L⟩) 43 (0, 0)) := new_at w _ _
 have HB1 := Lib.hid (below_new w (.cells (OpV.cells ⟨7, S, T, A, B, own, p, c, L⟩) 43))
 generalize w.alloc _ = w0 at hB0 HB1 ⊢
 have HX : Hid (∀ W : World, W.heap[w.heap.size]? = w0.heap[w.heap.size]? → W.cell? ⟨w.heap.size, 0, none⟩ = some (.int .i64 7) ∧ W.cell? ⟨w.heap.size, 1, none⟩ = some (.string S) ∧ W.cell? ⟨w.heap.size, 2, none⟩ = some (.string T) ∧ W.cell? ⟨w.heap.size, 3, none⟩ = some (.int .i64 A) ∧ W.cell? ⟨w.heap.size, 4, none⟩ = some (.int .i64 B) ∧ W.cell? ⟨w.heap.size, 5, none⟩ = some (.bool own) ∧ W.cell? ⟨w.heap.size, 6, none⟩ = some (.slice p L.length c)) := fun W hW => by
  have h2 := hW.trans hB0
  exact ⟨cell_at h2 0, cell_at h2 1, cell_at h2 2, cell_at h2 3, cell_at h2 4, cell_at h2 5, cell_at h2 6⟩
 have HL0 := Lib.hid (lt_of_block hB0)
 clear hB0
 go_region_held3 (fun W => W.cell? ⟨w.heap.size, 0, none⟩ = some (.int .i64 7) ∧ W.cell? ⟨w.heap.size, 1, none⟩ = some (.string S) ∧ W.cell? ⟨w.heap.size, 2, none⟩ = some (.string T) ∧ W.cell? ⟨w.heap.size, 3, none⟩ = some (.int .i64 A) ∧ W.cell? ⟨w.heap.size, 4, none⟩ = some (.int .i64 B) ∧ W.cell? ⟨w.heap.size, 5, none⟩ = some (.bool own) ∧ W.cell? ⟨w.heap.size, 6, none⟩ = some (.slice p L.length c)) (first | exact HX.out _ rfl | exact HX.out _ HE1.out) ((go_at_call 52; (with_reducible refine (HF.out _).mono ?_); rintro e w1 ⟨s', rfl, hs', hb⟩; have HE1 := Lib.hid (show w1.heap[w.heap.size]? = w0.heap[w.heap.size]? from hb.block _ HL0.out); have HB2 := Lib.hid (show Below w.heap.size w w1 from (by first | exact thenBelow HB1.out hb | exact thenBelow HB1.out (thenBelow (Below.refl _ _).drew hb))); have HL1 := Lib.hid (Nat.lt_of_lt_of_le HL0.out hb.size); have HS := Lib.hid hs'; clear hb hs'))
 rename_i hHeld
 clear HF HL0 HB1
 cases own with
 | false =>
  obtain ⟨c0, c1, c2, c3, c4, c5, c6⟩ := hHeld
  go_wp2_with (first
   | fail
   | (go_at_call 29; (with_reducible refine (HC.out _ HL1.out HB2.out).mono ?_); rintro e w7 ⟨rfl, he, hf⟩; have HC2 := Lib.hid hf; clear he hf)
   | (go_at_call 61; (with_reducible refine (HC2.out _ (Below.refl _ _)).mono ?_); rintro e w8 ⟨rfl, hp⟩; have HP := Lib.hid hp; clear hp))
  go_ret
  exact ⟨rfl, HP.out.2⟩
 | true =>
  obtain ⟨c0, c1, c2, c3, c4, c5, c6⟩ := hHeld
  go_wp2_with (first
   | (go_at_call 21; (with_reducible refine (HR.out _ HB2.out).mono ?_); rintro e w2 ⟨rfl, hb⟩; clear c0 c1 c2 c3 c4 c5 c6; have HE2 := Lib.hid (show w2.heap[w.heap.size]? = w0.heap[w.heap.size]? from (hb.block _ HL1.out).trans HE1.out); have HB3 := Lib.hid (thenBelow HB2.out hb); have HL2 := Lib.hid (Nat.lt_of_lt_of_le HL1.out hb.size); obtain ⟨c0, c1, c2, c3, c4, c5, c6⟩ := HX.out w2 HE2.out; clear hb)
   | (go_at_call 29; (with_reducible refine (HC.out _ HL2.out HB3.out).mono ?_); rintro e w7 ⟨rfl, he, hf⟩; have HC2 := Lib.hid hf; clear he hf)
   | (go_at_call 61; (with_reducible refine (HC2.out _ (Below.refl _ _)).mono ?_); rintro e w8 ⟨rfl, hp⟩; have HP := Lib.hid hp; clear hp))
  go_ret
  exact ⟨rfl, HP.out.2⟩
theorem act_9 (h : Pr a w d K r D ks) (ht : K.turn < 8990) (o : OpV) (ho : ActOk a o) (hlen : o.L.length ≤ 10000) (hk : o.kind = 9) :
  Calls Tryz.prog 16 #[.pointer (some ⟨d, 0, none⟩), .pointer (some ⟨r, 0, none⟩), .agg o.cells] w (ActP a w d K r D) := by
 obtain ⟨kind, S, T, A, B, own, p, c, L⟩ := o
 obtain rfl : kind = 9 := hk
 have HF := Lib.hid (fun W => fill_any S ho.S own W)
 have HC := Lib.hid (h.roomB B)
 have HR : Hid (∀ W, Below w.heap.size w W → Calls Tryz.prog 21 #[.pointer (some ⟨r, 0, none⟩), .string T] W fun e w' => e = .returned (.tuple #[.int .i64 (sizeR D T), .int .i64 (errR D T)]) ∧ Below W.heap.size W w') := fun W hW => (h.over hW).at2.size T
 clear h ht ho hlen
 go_enter Tryz.func16, Tryz.ntmps16
 go_upto_region 1 with (fail)
 have hB0 : (w.alloc (.cells (OpV.cells ⟨9, S, T, A, B, own, p, c, L⟩) 43)).heap[w.heap.size]? = some (.cells (OpV.cells ⟨9, S, T, A, B, own, p, c, L⟩) 43 (0, 0)) := new_at w _ _
 have HB1 := Lib.hid (below_new w (.cells (OpV.cells ⟨9, S, T, A, B, own, p, c, L⟩) 43))
 generalize w.alloc _ = w0 at hB0 HB1 ⊢
 have HX : Hid (∀ W : World, W.heap[w.heap.size]? = w0.heap[w.heap.size]? → W.cell? ⟨w.heap.size, 0, none⟩ = some (.int .i64 9) ∧ W.cell? ⟨w.heap.size, 1, none⟩ = some (.string S) ∧ W.cell? ⟨w.heap.size, 2, none⟩ = some (.string T) ∧ W.cell? ⟨w.heap.size, 3, none⟩ = some (.int .i64 A) ∧ W.cell? ⟨w.heap.size, 4, none⟩ = some (.int .i64 B) ∧ W.cell? ⟨w.heap.size, 5, none⟩ = some (.bool own) ∧ W.cell? ⟨w.heap.size, 6, none⟩ = some (.slice p L.length c)) := fun W hW => by
  have h2 := hW.trans hB0
  exact ⟨cell_at h2 0, cell_at h2 1, cell_at h2 2, cell_at h2 3, cell_at h2 4, cell_at h2 5, cell_at h2 6⟩
 have HL0 := Lib.hid (lt_of_block hB0)
 clear hB0
 go_region_held3 (fun W => W.cell? ⟨w.heap.size, 0, none⟩ = some (.int .i64 9) ∧ W.cell? ⟨w.heap.size, 1, none⟩ = some (.string S) ∧ W.cell? ⟨w.heap.size, 2, none⟩ = some (.string T) ∧ W.cell? ⟨w.heap.size, 3, none⟩ = some (.int .i64 A) ∧ W.cell? ⟨w.heap.size, 4, none⟩ = some (.int .i64 B) ∧ W.cell? ⟨w.heap.size, 5, none⟩ = some (.bool own) ∧ W.cell? ⟨w.heap.size, 6, none⟩ = some (.slice p L.length c)) (first | exact HX.out _ rfl | exact HX.out _ HE1.out) ((go_at_call 52; (with_reducible refine (HF.out _).mono ?_); rintro e w1 ⟨s', rfl, hs', hb⟩; have HE1 := Lib.hid (show w1.heap[w.heap.size]? = w0.heap[w.heap.size]? from hb.block _ HL0.out); have HB2 := Lib.hid (show Below w.heap.size w w1 from (by first | exact thenBelow HB1.out hb | exact thenBelow HB1.out (thenBelow (Below.refl _ _).drew hb))); have HL1 := Lib.hid (Nat.lt_of_lt_of_le HL0.out hb.size); have HS := Lib.hid hs'; clear hb hs'))
 rename_i hHeld
 clear HF HL0 HB1
 cases own with
 | false =>
  obtain ⟨c0, c1, c2, c3, c4, c5, c6⟩ := hHeld
  go_wp2_with (first
   | fail
   | (go_at_call 64; (with_reducible refine (HC.out _ HL1.out HB2.out).mono ?_); rintro e w7 ⟨rfl, he, r1, r2, hp⟩; have HE7 := Lib.hid (show w7.heap[w.heap.size]? = w0.heap[w.heap.size]? from he.trans HE1.out); have HP := Lib.hid hp; clear he hp; clear c0 c1 c2 c3 c4 c5 c6; obtain ⟨c0, c1, c2, c3, c4, c5, c6⟩ := HX.out w7 HE7.out))
  go_ret
  exact ⟨rfl, HP.out.2⟩
 | true =>
  obtain ⟨c0, c1, c2, c3, c4, c5, c6⟩ := hHeld
  go_wp2_with (first
   | (go_at_call 21; (with_reducible refine (HR.out _ HB2.out).mono ?_); rintro e w2 ⟨rfl, hb⟩; clear c0 c1 c2 c3 c4 c5 c6; have HE2 := Lib.hid (show w2.heap[w.heap.size]? = w0.heap[w.heap.size]? from (hb.block _ HL1.out).trans HE1.out); have HB3 := Lib.hid (thenBelow HB2.out hb); have HL2 := Lib.hid (Nat.lt_of_lt_of_le HL1.out hb.size); obtain ⟨c0, c1, c2, c3, c4, c5, c6⟩ := HX.out w2 HE2.out; clear hb)
   | (go_at_call 64; (with_reducible refine (HC.out _ HL2.out HB3.out).mono ?_); rintro e w7 ⟨rfl, he, r1, r2, hp⟩; have HE7 := Lib.hid (show w7.heap[w.heap.size]? = w0.heap[w.heap.size]? from he.trans HE2.out); have HP := Lib.hid hp; clear he hp; clear c0 c1 c2 c3 c4 c5 c6; obtain ⟨c0, c1, c2, c3, c4, c5, c6⟩ := HX.out w7 HE7.out))
  go_ret
  exact ⟨rfl, HP.out.2⟩
theorem act_10 (h : Pr a w d K r D ks) (ht : K.turn < 8990) (o : OpV) (ho : ActOk a o) (hlen : o.L.length ≤ 10000) (hk : o.kind = 10) :
  Calls Tryz.prog 16 #[.pointer (some ⟨d, 0, none⟩), .pointer (some ⟨r, 0, none⟩), .agg o.cells] w (ActP a w d K r D) := by
 obtain ⟨kind, S, T, A, B, own, p, c, L⟩ := o
 obtain rfl : kind = 10 := hk
 have HF := Lib.hid (fun W => fill_any S ho.S own W)
 have HC := Lib.hid (h.reads T ho.T A)
 have HI := Lib.hid (fun W (hW : Below w.heap.size w W) => h.idleP hW)
 have kt : ((readR D T A).1.toList == (readR D T A).1.toList) = true := beq_self_eq_true _
 have ke : ((readR D T A).2 == (readR D T A).2) = true := beq_self_eq_true _
 have HR : Hid (∀ W, Below w.heap.size w W → Calls Tryz.prog 21 #[.pointer (some ⟨r, 0, none⟩), .string T] W fun e w' => e = .returned (.tuple #[.int .i64 (sizeR D T), .int .i64 (errR D T)]) ∧ Below W.heap.size W w') := fun W hW => (h.over hW).at2.size T
 clear h ht ho hlen
 go_enter Tryz.func16, Tryz.ntmps16
 go_upto_region 1 with (fail)
 have hB0 : (w.alloc (.cells (OpV.cells ⟨10, S, T, A, B, own, p, c, L⟩) 43)).heap[w.heap.size]? = some (.cells (OpV.cells ⟨10, S, T, A, B, own, p, c, L⟩) 43 (0, 0)) := new_at w _ _
 have HB1 := Lib.hid (below_new w (.cells (OpV.cells ⟨10, S, T, A, B, own, p, c, L⟩) 43))
 generalize w.alloc _ = w0 at hB0 HB1 ⊢
 have HX : Hid (∀ W : World, W.heap[w.heap.size]? = w0.heap[w.heap.size]? → W.cell? ⟨w.heap.size, 0, none⟩ = some (.int .i64 10) ∧ W.cell? ⟨w.heap.size, 1, none⟩ = some (.string S) ∧ W.cell? ⟨w.heap.size, 2, none⟩ = some (.string T) ∧ W.cell? ⟨w.heap.size, 3, none⟩ = some (.int .i64 A) ∧ W.cell? ⟨w.heap.size, 4, none⟩ = some (.int .i64 B) ∧ W.cell? ⟨w.heap.size, 5, none⟩ = some (.bool own) ∧ W.cell? ⟨w.heap.size, 6, none⟩ = some (.slice p L.length c)) := fun W hW => by
  have h2 := hW.trans hB0
  exact ⟨cell_at h2 0, cell_at h2 1, cell_at h2 2, cell_at h2 3, cell_at h2 4, cell_at h2 5, cell_at h2 6⟩
 have HL0 := Lib.hid (lt_of_block hB0)
 clear hB0
 go_region_held3 (fun W => W.cell? ⟨w.heap.size, 0, none⟩ = some (.int .i64 10) ∧ W.cell? ⟨w.heap.size, 1, none⟩ = some (.string S) ∧ W.cell? ⟨w.heap.size, 2, none⟩ = some (.string T) ∧ W.cell? ⟨w.heap.size, 3, none⟩ = some (.int .i64 A) ∧ W.cell? ⟨w.heap.size, 4, none⟩ = some (.int .i64 B) ∧ W.cell? ⟨w.heap.size, 5, none⟩ = some (.bool own) ∧ W.cell? ⟨w.heap.size, 6, none⟩ = some (.slice p L.length c)) (first | exact HX.out _ rfl | exact HX.out _ HE1.out) ((go_at_call 52; (with_reducible refine (HF.out _).mono ?_); rintro e w1 ⟨s', rfl, hs', hb⟩; have HE1 := Lib.hid (show w1.heap[w.heap.size]? = w0.heap[w.heap.size]? from hb.block _ HL0.out); have HB2 := Lib.hid (show Below w.heap.size w w1 from (by first | exact thenBelow HB1.out hb | exact thenBelow HB1.out (thenBelow (Below.refl _ _).drew hb))); have HL1 := Lib.hid (Nat.lt_of_lt_of_le HL0.out hb.size); have HS := Lib.hid hs'; clear hb hs'))
 rename_i hHeld
 clear HF HL0 HB1
 cases own with
 | false =>
  obtain ⟨c0, c1, c2, c3, c4, c5, c6⟩ := hHeld
  go_wp2_with (first
   | fail
   | (go_at_call 65; (with_reducible refine (HC.out _ HB2.out).1.mono ?_); rintro e w7 ⟨rfl, hb⟩; have HE7 := Lib.hid (show w7.heap[w.heap.size]? = w0.heap[w.heap.size]? from (hb.block _ HL1.out).trans HE1.out); have HB7 := Lib.hid (thenBelow HB2.out hb); clear hb; clear c0 c1 c2 c3 c4 c5 c6; obtain ⟨c0, c1, c2, c3, c4, c5, c6⟩ := HX.out w7 HE7.out)
   | (go_at_call 66; (with_reducible refine (HC.out _ HB7.out).2.mono ?_); rintro e w8 ⟨rfl, hb⟩; have HP := Lib.hid (HI.out _ (thenBelow HB7.out hb)); clear hb))
  go_ret
  exact ⟨rfl, HP.out.2⟩
 | true =>
  obtain ⟨c0, c1, c2, c3, c4, c5, c6⟩ := hHeld
  go_wp2_with (first
   | (go_at_call 21; (with_reducible refine (HR.out _ HB2.out).mono ?_); rintro e w2 ⟨rfl, hb⟩; clear c0 c1 c2 c3 c4 c5 c6; have HE2 := Lib.hid (show w2.heap[w.heap.size]? = w0.heap[w.heap.size]? from (hb.block _ HL1.out).trans HE1.out); have HB3 := Lib.hid (thenBelow HB2.out hb); have HL2 := Lib.hid (Nat.lt_of_lt_of_le HL1.out hb.size); obtain ⟨c0, c1, c2, c3, c4, c5, c6⟩ := HX.out w2 HE2.out; clear hb)
   | (go_at_call 65; (with_reducible refine (HC.out _ HB3.out).1.mono ?_); rintro e w7 ⟨rfl, hb⟩; have HE7 := Lib.hid (show w7.heap[w.heap.size]? = w0.heap[w.heap.size]? from (hb.block _ HL2.out).trans HE2.out); have HB7 := Lib.hid (thenBelow HB3.out hb); clear hb; clear c0 c1 c2 c3 c4 c5 c6; obtain ⟨c0, c1, c2, c3, c4, c5, c6⟩ := HX.out w7 HE7.out)
   | (go_at_call 66; (with_reducible refine (HC.out _ HB7.out).2.mono ?_); rintro e w8 ⟨rfl, hb⟩; have HP := Lib.hid (HI.out _ (thenBelow HB7.out hb)); clear hb))
  go_ret
  exact ⟨rfl, HP.out.2⟩
theorem act_none (h : Pr a w d K r D ks) (ht : K.turn < 8990) (o : OpV) (ho : ActOk a o) (hlen : o.L.length ≤ 10000) (hk : ∀ k : Int, 1 ≤ k → k ≤ 10 → o.kind ≠ k) :
  Calls Tryz.prog 16 #[.pointer (some ⟨d, 0, none⟩), .pointer (some ⟨r, 0, none⟩), .agg o.cells] w (ActP a w d K r D) := by
 obtain ⟨kind, S, T, A, B, own, p, c, L⟩ := o
 have hk : ∀ k : Int, 1 ≤ k → k ≤ 10 → kind ≠ k := hk
 have HF := Lib.hid (fun W => fill_any S ho.S own W)
 have HI := Lib.hid (fun W (hW : Below w.heap.size w W) => h.idleP hW)
 have HR : Hid (∀ W, Below w.heap.size w W → Calls Tryz.prog 21 #[.pointer (some ⟨r, 0, none⟩), .string T] W fun e w' => e = .returned (.tuple #[.int .i64 (sizeR D T), .int .i64 (errR D T)]) ∧ Below W.heap.size W w') := fun W hW => (h.over hW).at2.size T
 clear h ht ho hlen
 go_enter Tryz.func16, Tryz.ntmps16
 go_upto_region 1 with (fail)
 have hB0 : (w.alloc (.cells (OpV.cells ⟨kind, S, T, A, B, own, p, c, L⟩) 43)).heap[w.heap.size]? = some (.cells (OpV.cells ⟨kind, S, T, A, B, own, p, c, L⟩) 43 (0, 0)) := new_at w _ _
 have HB1 := Lib.hid (below_new w (.cells (OpV.cells ⟨kind, S, T, A, B, own, p, c, L⟩) 43))
 generalize w.alloc _ = w0 at hB0 HB1 ⊢
 have HX : Hid (∀ W : World, W.heap[w.heap.size]? = w0.heap[w.heap.size]? → W.cell? ⟨w.heap.size, 0, none⟩ = some (.int .i64 kind) ∧ W.cell? ⟨w.heap.size, 1, none⟩ = some (.string S) ∧ W.cell? ⟨w.heap.size, 2, none⟩ = some (.string T) ∧ W.cell? ⟨w.heap.size, 3, none⟩ = some (.int .i64 A) ∧ W.cell? ⟨w.heap.size, 4, none⟩ = some (.int .i64 B) ∧ W.cell? ⟨w.heap.size, 5, none⟩ = some (.bool own) ∧ W.cell? ⟨w.heap.size, 6, none⟩ = some (.slice p L.length c)) := fun W hW => by
  have h2 := hW.trans hB0
  exact ⟨cell_at h2 0, cell_at h2 1, cell_at h2 2, cell_at h2 3, cell_at h2 4, cell_at h2 5, cell_at h2 6⟩
 have HL0 := Lib.hid (lt_of_block hB0)
 clear hB0
 go_region_held3 (fun W => W.cell? ⟨w.heap.size, 0, none⟩ = some (.int .i64 kind) ∧ W.cell? ⟨w.heap.size, 1, none⟩ = some (.string S) ∧ W.cell? ⟨w.heap.size, 2, none⟩ = some (.string T) ∧ W.cell? ⟨w.heap.size, 3, none⟩ = some (.int .i64 A) ∧ W.cell? ⟨w.heap.size, 4, none⟩ = some (.int .i64 B) ∧ W.cell? ⟨w.heap.size, 5, none⟩ = some (.bool own) ∧ W.cell? ⟨w.heap.size, 6, none⟩ = some (.slice p L.length c)) (first | exact HX.out _ rfl | exact HX.out _ HE1.out) ((go_at_call 52; (with_reducible refine (HF.out _).mono ?_); rintro e w1 ⟨s', rfl, hs', hb⟩; have HE1 := Lib.hid (show w1.heap[w.heap.size]? = w0.heap[w.heap.size]? from hb.block _ HL0.out); have HB2 := Lib.hid (show Below w.heap.size w w1 from (by first | exact thenBelow HB1.out hb | exact thenBelow HB1.out (thenBelow (Below.refl _ _).drew hb))); have HL1 := Lib.hid (Nat.lt_of_lt_of_le HL0.out hb.size); have HS := Lib.hid hs'; clear hb hs'))
 rename_i hHeld
 clear HF HL0 HB1
 have k1 : (kind == 1) = false := beq_eq_false_iff_ne.2 (hk 1 (by decide) (by decide))
 have k2 : (kind == 2) = false := beq_eq_false_iff_ne.2 (hk 2 (by decide) (by decide))
 have k3 : (kind == 3) = false := beq_eq_false_iff_ne.2 (hk 3 (by decide) (by decide))
 have k4 : (kind == 4) = false := beq_eq_false_iff_ne.2 (hk 4 (by decide) (by decide))
 have k5 : (kind == 5) = false := beq_eq_false_iff_ne.2 (hk 5 (by decide) (by decide))
 have k6 : (kind == 6) = false := beq_eq_false_iff_ne.2 (hk 6 (by decide) (by decide))
 have k7 : (kind == 7) = false := beq_eq_false_iff_ne.2 (hk 7 (by decide) (by decide))
 have k8 : (kind == 8) = false := beq_eq_false_iff_ne.2 (hk 8 (by decide) (by decide))
 have k9 : (kind == 9) = false := beq_eq_false_iff_ne.2 (hk 9 (by decide) (by decide))
 have k10 : (kind == 10) = false := beq_eq_false_iff_ne.2 (hk 10 (by decide) (by decide))
 cases own with
 | false =>
  obtain ⟨c0, c1, c2, c3, c4, c5, c6⟩ := hHeld
  go_wp2_with (fail)
  have HP := Lib.hid (HI.out _ HB2.out)
  go_ret
  exact ⟨rfl, HP.out.2⟩
 | true =>
  obtain ⟨c0, c1, c2, c3, c4, c5, c6⟩ := hHeld
  go_wp2_with ((go_at_call 21; (with_reducible refine (HR.out _ HB2.out).mono ?_); rintro e w2 ⟨rfl, hb⟩; clear c0 c1 c2 c3 c4 c5 c6; have HE2 := Lib.hid (show w2.heap[w.heap.size]? = w0.heap[w.heap.size]? from (hb.block _ HL1.out).trans HE1.out); have HB3 := Lib.hid (thenBelow HB2.out hb); have HL2 := Lib.hid (Nat.lt_of_lt_of_le HL1.out hb.size); obtain ⟨c0, c1, c2, c3, c4, c5, c6⟩ := HX.out w2 HE2.out; clear hb))
  have HP := Lib.hid (HI.out _ HB3.out)
  go_ret
  exact ⟨rfl, HP.out.2⟩
end
end Go.Proofs.YtbkngnjkaledlaaGreat.P4
