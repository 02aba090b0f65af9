/-
  Texts of the proof of SaidPlay8b.
-/
import Derived.Test.YtbkngnjkaledlaaGreatMp41
set_option maxHeartbeats 8000000
set_option maxRecDepth 100000
namespace Go.Proofs.YtbkngnjkaledlaaGreat.P4
open Go Go.RowKit Go.Lib Go.Maps Go.ChangeMaps Go.MapKept P3
section
variable {a w w' w1 w2 : World} {d r : Nat} {K K1 : Dk} {D D1 : RM} {ks : List Int}
theorem act_3 (h : Pr a w d K r D ks) (ht : K.turn < 8990) (o : OpV) (ho : ActOk a o) (hlen : o.L.length ≤ 10000) (hk : o.kind = 3) :
  Calls Tryz.prog 16 #[.pointer (some ⟨d, 0, none⟩), .pointer (some ⟨r, 0, none⟩), .agg o.cells] w (ActP a w d K r D) := by
 obtain ⟨kind, S, T, A, B, own, p, c, L⟩ := o
 obtain rfl : kind = 3 := hk
 have HF := Lib.hid (fun W => fill_any S ho.S own W)
 have HC := Lib.hid (fun z => h.boxed fun W hW => two_cut hW (by omega) T z ho.T)
 have HR : Hid (∀ W, Below w.heap.size w W → Calls Tryz.prog 21 #[.pointer (some ⟨r, 0, none⟩), .string T] W fun e w' => e = .returned (.tuple #[.int .i64 (sizeR D T), .int .i64 (errR D T)]) ∧ Below W.heap.size W w') := fun W hW => (h.over hW).at2.size T
 clear h ht ho hlen
 go_enter Tryz.func16, Tryz.ntmps16
 go_upto_region 1 with (fail)
 have hB0 : (w.alloc (.cells (OpV.cells ⟨3, S, T, A, B, own, p, c, L⟩) 43)).heap[w.heap.size]? = some (.cells (OpV.cells ⟨3, S, T, A, B, own, p, c, L⟩) 43 (0, 0)) := new_at w _ _
 have HB1 := Lib.hid (below_new w (.cells (OpV.cells ⟨3, S, T, A, B, own, p, c, L⟩) 43))
 generalize w.alloc _ = w0 at hB0 HB1 ⊢
 have HX : Hid (∀ W : World, W.heap[w.heap.size]? = w0.heap[w.heap.size]? → W.cell? ⟨w.heap.size, 0, none⟩ = some (.int .i64 3) ∧ W.cell? ⟨w.heap.size, 1, none⟩ = some (.string S) ∧ W.cell? ⟨w.heap.size, 2, none⟩ = some (.string T) ∧ W.cell? ⟨w.heap.size, 3, none⟩ = some (.int .i64 A) ∧ W.cell? ⟨w.heap.size, 4, none⟩ = some (.int .i64 B) ∧ W.cell? ⟨w.heap.size, 5, none⟩ = some (.bool own) ∧ W.cell? ⟨w.heap.size, 6, none⟩ = some (.slice p L.length c)) := fun W hW => by
  have h2 := hW.trans hB0
  exact ⟨cell_at h2 0, cell_at h2 1, cell_at h2 2, cell_at h2 3, cell_at h2 4, cell_at h2 5, cell_at h2 6⟩
 have HL0 := Lib.hid (lt_of_block hB0)
 clear hB0
 go_region_held3 (fun W => W.cell? ⟨w.heap.size, 0, none⟩ = some (.int .i64 3) ∧ W.cell? ⟨w.heap.size, 1, none⟩ = some (.string S) ∧ W.cell? ⟨w.heap.size, 2, none⟩ = some (.string T) ∧ W.cell? ⟨w.heap.size, 3, none⟩ = some (.int .i64 A) ∧ W.cell? ⟨w.heap.size, 4, none⟩ = some (.int .i64 B) ∧ W.cell? ⟨w.heap.size, 5, none⟩ = some (.bool own) ∧ W.cell? ⟨w.heap.size, 6, none⟩ = some (.slice p L.length c)) (first | exact HX.out _ rfl | exact HX.out _ HE1.out) ((go_at_call 52; (with_reducible refine (HF.out _).mono ?_); rintro e w1 ⟨s', rfl, hs', hb⟩; have HE1 := Lib.hid (show w1.heap[w.heap.size]? = w0.heap[w.heap.size]? from hb.block _ HL0.out); have HB2 := Lib.hid (show Below w.heap.size w w1 from (by first | exact thenBelow HB1.out hb | exact thenBelow HB1.out (thenBelow (Below.refl _ _).drew hb))); have HL1 := Lib.hid (Nat.lt_of_lt_of_le HL0.out hb.size); have HS := Lib.hid hs'; clear hb hs'))
 rename_i hHeld
 clear HF HL0 HB1
 cases own with
 | false =>
  obtain ⟨c0, c1, c2, c3, c4, c5, c6⟩ := hHeld
  go_upto_region 11 with (fail)
  go_region_held3 (fun W => W.cell? ⟨w.heap.size, 0, none⟩ = some (.int .i64 3) ∧ W.cell? ⟨w.heap.size, 1, none⟩ = some (.string S) ∧ W.cell? ⟨w.heap.size, 2, none⟩ = some (.string T) ∧ W.cell? ⟨w.heap.size, 3, none⟩ = some (.int .i64 A) ∧ W.cell? ⟨w.heap.size, 4, none⟩ = some (.int .i64 B) ∧ W.cell? ⟨w.heap.size, 5, none⟩ = some (.bool false) ∧ W.cell? ⟨w.heap.size, 6, none⟩ = some (.slice p L.length c)) (first | exact HX.out _ HE1.out | exact HX.out _ HE2.out | exact HX.out _ HE3.out) ((first
   | (go_at_call 53; (with_reducible refine (HC.out _ _ (by first | exact HL1.out | exact lt_drew HL1.out) (by first | exact HB2.out | exact HB2.out.drew)).mono ?_); rintro e w2 ⟨z, rfl, he, hf⟩; have HE2 := Lib.hid (show w2.heap[w.heap.size]? = w0.heap[w.heap.size]? from he.trans HE1.out); have HC2 := Lib.hid hf; clear he hf)
   | (go_at_call 54; (with_reducible refine (HC2.out _ (by first | exact Below.refl _ _ | exact (Below.refl _ _).drew)).mono ?_); rintro e w3 ⟨rfl, he, hp⟩; have HE3 := Lib.hid (show w3.heap[w.heap.size]? = w0.heap[w.heap.size]? from he.trans HE1.out); have HP := Lib.hid hp; clear he hp)))
  all_goals
   first
    | (go_wp2; go_ret; exact ⟨by simp, HP.out.2⟩)
    | (go_ret; exact ⟨by simp, HP.out.2⟩)
    | (go_wp2; go_ret; exact ⟨rfl, HP.out.2⟩)
    | (go_ret; exact ⟨rfl, HP.out.2⟩)
 | true =>
  obtain ⟨c0, c1, c2, c3, c4, c5, c6⟩ := hHeld
  go_upto_region 11 with (go_at_call 21; (with_reducible refine (HR.out _ HB2.out).mono ?_); rintro e w2 ⟨rfl, hb⟩; clear c0 c1 c2 c3 c4 c5 c6; have HE2 := Lib.hid (show w2.heap[w.heap.size]? = w0.heap[w.heap.size]? from (hb.block _ HL1.out).trans HE1.out); have HB3 := Lib.hid (thenBelow HB2.out hb); have HL2 := Lib.hid (Nat.lt_of_lt_of_le HL1.out hb.size); obtain ⟨c0, c1, c2, c3, c4, c5, c6⟩ := HX.out w2 HE2.out; clear hb)
  clear HE1 HB2 HL1
  go_region_held3 (fun W => W.cell? ⟨w.heap.size, 0, none⟩ = some (.int .i64 3) ∧ W.cell? ⟨w.heap.size, 1, none⟩ = some (.string S) ∧ W.cell? ⟨w.heap.size, 2, none⟩ = some (.string T) ∧ W.cell? ⟨w.heap.size, 3, none⟩ = some (.int .i64 A) ∧ W.cell? ⟨w.heap.size, 4, none⟩ = some (.int .i64 B) ∧ W.cell? ⟨w.heap.size, 5, none⟩ = some (.bool true) ∧ W.cell? ⟨w.heap.size, 6, none⟩ = some (.slice p L.length c)) (first | exact HX.out _ HE2.out | exact HX.out _ HE3.out | exact HX.out _ HE4.out) ((first
   | (go_at_call 53; (with_reducible refine (HC.out _ _ (by first | exact HL2.out | exact lt_drew HL2.out) (by first | exact HB3.out | exact HB3.out.drew)).mono ?_); rintro e w3 ⟨z, rfl, he, hf⟩; have HE3 := Lib.hid (show w3.heap[w.heap.size]? = w0.heap[w.heap.size]? from he.trans HE2.out); have HC2 := Lib.hid hf; clear he hf)
   | (go_at_call 54; (with_reducible refine (HC2.out _ (by first | exact Below.refl _ _ | exact (Below.refl _ _).drew)).mono ?_); rintro e w4 ⟨rfl, he, hp⟩; have HE4 := Lib.hid (show w4.heap[w.heap.size]? = w0.heap[w.heap.size]? from he.trans HE2.out); have HP := Lib.hid hp; clear he hp)))
  all_goals
   first
    | (go_wp2; go_ret; exact ⟨by simp, HP.out.2⟩)
    | (go_ret; exact ⟨by simp, HP.out.2⟩)
    | (go_wp2; go_ret; exact ⟨rfl, HP.out.2⟩)
    | (go_ret; exact ⟨rfl, HP.out.2⟩)
theorem act_1 (h : Pr a w d K r D ks) (ht : K.turn < 8990) (o : OpV) (ho : ActOk a o) (hlen : o.L.length ≤ 10000) (hk : o.kind = 1) :
  Calls Tryz.prog 16 #[.pointer (some ⟨d, 0, none⟩), .pointer (some ⟨r, 0, none⟩), .agg o.cells] w (ActP a w d K r D) := by
 obtain ⟨kind, S, T, A, B, own, p, c, L⟩ := o
 obtain rfl : kind = 1 := hk
 have HF := Lib.hid (fun W => fill_any S ho.S own W)
 have HC := Lib.hid (fun z s' hs' => h.boxed fun W hW => two_write hW (by omega) T z s' ho.T hs')
 have HR : Hid (∀ W, Below w.heap.size w W → Calls Tryz.prog 21 #[.pointer (some ⟨r, 0, none⟩), .string T] W fun e w' => e = .returned (.tuple #[.int .i64 (sizeR D T), .int .i64 (errR D T)]) ∧ Below W.heap.size W w') := fun W hW => (h.over hW).at2.size T
 clear h ht ho hlen
 go_enter Tryz.func16, Tryz.ntmps16
 go_upto_region 1 with (fail)
 have hB0 : (w.alloc (.cells (OpV.cells ⟨1, S, T, A, B, own, p, c, L⟩) 43)).heap[w.heap.size]? = some (.cells (OpV.cells ⟨1, S, T, A, B, own, p, c, L⟩) 43 (0, 0)) := new_at w _ _
 have HB1 := Lib.hid (below_new w (.cells (OpV.cells ⟨1, S, T, A, B, own, p, c, L⟩) 43))
 generalize w.alloc _ = w0 at hB0 HB1 ⊢
 have HX : Hid (∀ W : World, W.heap[w.heap.size]? = w0.heap[w.heap.size]? → W.cell? ⟨w.heap.size, 0, none⟩ = some (.int .i64 1) ∧ W.cell? ⟨w.heap.size, 1, none⟩ = some (.string S) ∧ W.cell? ⟨w.heap.size, 2, none⟩ = some (.string T) ∧ W.cell? ⟨w.heap.size, 3, none⟩ = some (.int .i64 A) ∧ W.cell? ⟨w.heap.size, 4, none⟩ = some (.int .i64 B) ∧ W.cell? ⟨w.heap.size, 5, none⟩ = some (.bool own) ∧ W.cell? ⟨w.heap.size, 6, none⟩ = some (.slice p L.length c)) := fun W hW => by
  have h2 := hW.trans hB0
  exact ⟨cell_at h2 0, cell_at h2 1, cell_at h2 2, cell_at h2 3, cell_at h2 4, cell_at h2 5, cell_at h2 6⟩
 have HL0 := Lib.hid (lt_of_block hB0)
 clear hB0
 go_region_held3 (fun W => W.cell? ⟨w.heap.size, 0, none⟩ = some (.int .i64 1) ∧ W.cell? ⟨w.heap.size, 1, none⟩ = some (.string S) ∧ W.cell? ⟨w.heap.size, 2, none⟩ = some (.string T) ∧ W.cell? ⟨w.heap.size, 3, none⟩ = some (.int .i64 A) ∧ W.cell? ⟨w.heap.size, 4, none⟩ = some (.int .i64 B) ∧ W.cell? ⟨w.heap.size, 5, none⟩ = some (.bool own) ∧ W.cell? ⟨w.heap.size, 6, none⟩ = some (.slice p L.length c)) (first | exact HX.out _ rfl | exact HX.out _ HE1.out) ((go_at_call 52; (with_reducible refine (HF.out _).mono ?_); rintro e w1 ⟨s', rfl, hs', hb⟩; have HE1 := Lib.hid (show w1.heap[w.heap.size]? = w0.heap[w.heap.size]? from hb.block _ HL0.out); have HB2 := Lib.hid (show Below w.heap.size w w1 from (by first | exact thenBelow HB1.out hb | exact thenBelow HB1.out (thenBelow (Below.refl _ _).drew hb))); have HL1 := Lib.hid (Nat.lt_of_lt_of_le HL0.out hb.size); have HS := Lib.hid hs'; clear hb hs'))
 rename_i hHeld
 clear HF HL0 HB1
 cases own with
 | false =>
  obtain ⟨c0, c1, c2, c3, c4, c5, c6⟩ := hHeld
  go_upto_region 7 with (fail)
  go_region_held3 (fun W => W.cell? ⟨w.heap.size, 0, none⟩ = some (.int .i64 1) ∧ W.cell? ⟨w.heap.size, 1, none⟩ = some (.string S) ∧ W.cell? ⟨w.heap.size, 2, none⟩ = some (.string T) ∧ W.cell? ⟨w.heap.size, 3, none⟩ = some (.int .i64 A) ∧ W.cell? ⟨w.heap.size, 4, none⟩ = some (.int .i64 B) ∧ W.cell? ⟨w.heap.size, 5, none⟩ = some (.bool false) ∧ W.cell? ⟨w.heap.size, 6, none⟩ = some (.slice p L.length c)) (first | exact HX.out _ HE1.out | exact HX.out _ HE2.out | exact HX.out _ HE3.out) ((first
   | (go_at_call 41; (with_reducible refine (HC.out _ _ HS.out _ (by first | exact HL1.out | exact lt_drew HL1.out) (by first | exact HB2.out | exact HB2.out.drew)).mono ?_); rintro e w2 ⟨z, rfl, he, hf⟩; have HE2 := Lib.hid (show w2.heap[w.heap.size]? = w0.heap[w.heap.size]? from he.trans HE1.out); have HC2 := Lib.hid hf; clear he hf)
   | (go_at_call 37; (with_reducible refine (HC2.out _ (by first | exact Below.refl _ _ | exact (Below.refl _ _).drew)).mono ?_); rintro e w3 ⟨rfl, he, hp⟩; have HE3 := Lib.hid (show w3.heap[w.heap.size]? = w0.heap[w.heap.size]? from he.trans HE1.out); have HP := Lib.hid hp; clear he hp)))
  all_goals
   first
    | (go_wp2; go_ret; exact ⟨by simp, HP.out.2⟩)
    | (go_ret; exact ⟨by simp, HP.out.2⟩)
    | (go_wp2; go_ret; exact ⟨rfl, HP.out.2⟩)
    | (go_ret; exact ⟨rfl, HP.out.2⟩)
 | true =>
  obtain ⟨c0, c1, c2, c3, c4, c5, c6⟩ := hHeld
  go_upto_region 7 with (go_at_call 21; (with_reducible refine (HR.out _ HB2.out).mono ?_); rintro e w2 ⟨rfl, hb⟩; clear c0 c1 c2 c3 c4 c5 c6; have HE2 := Lib.hid (show w2.heap[w.heap.size]? = w0.heap[w.heap.size]? from (hb.block _ HL1.out).trans HE1.out); have HB3 := Lib.hid (thenBelow HB2.out hb); have HL2 := Lib.hid (Nat.lt_of_lt_of_le HL1.out hb.size); obtain ⟨c0, c1, c2, c3, c4, c5, c6⟩ := HX.out w2 HE2.out; clear hb)
  clear HE1 HB2 HL1
  go_region_held3 (fun W => W.cell? ⟨w.heap.size, 0, none⟩ = some (.int .i64 1) ∧ W.cell? ⟨w.heap.size, 1, none⟩ = some (.string S) ∧ W.cell? ⟨w.heap.size, 2, none⟩ = some (.string T) ∧ W.cell? ⟨w.heap.size, 3, none⟩ = some (.int .i64 A) ∧ W.cell? ⟨w.heap.size, 4, none⟩ = some (.int .i64 B) ∧ W.cell? ⟨w.heap.size, 5, none⟩ = some (.bool true) ∧ W.cell? ⟨w.heap.size, 6, none⟩ = some (.slice p L.length c)) (first | exact HX.out _ HE2.out | exact HX.out _ HE3.out | exact HX.out _ HE4.out) ((first
   | (go_at_call 41; (with_reducible refine (HC.out _ _ HS.out _ (by first | exact HL2.out | exact lt_drew HL2.out) (by first | exact HB3.out | exact HB3.out.drew)).mono ?_); rintro e w3 ⟨z, rfl, he, hf⟩; have HE3 := Lib.hid (show w3.heap[w.heap.size]? = w0.heap[w.heap.size]? from he.trans HE2.out); have HC2 := Lib.hid hf; clear he hf)
   | (go_at_call 37; (with_reducible refine (HC2.out _ (by first | exact Below.refl _ _ | exact (Below.refl _ _).drew)).mono ?_); rintro e w4 ⟨rfl, he, hp⟩; have HE4 := Lib.hid (show w4.heap[w.heap.size]? = w0.heap[w.heap.size]? from he.trans HE2.out); have HP := Lib.hid hp; clear he hp)))
  all_goals
   first
    | (go_wp2; go_ret; exact ⟨by simp, HP.out.2⟩)
    | (go_ret; exact ⟨by simp, HP.out.2⟩)
    | (go_wp2; go_ret; exact ⟨rfl, HP.out.2⟩)
    | (go_ret; exact ⟨rfl, HP.out.2⟩)
end
end Go.Proofs.YtbkngnjkaledlaaGreat.P4
