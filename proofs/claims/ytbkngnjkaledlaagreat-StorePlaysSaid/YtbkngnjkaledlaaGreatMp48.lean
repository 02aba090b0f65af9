/-
  Texts of the proof of SaidPlay8b.
-/
import Derived.Test.YtbkngnjkaledlaaGreatMp47
set_option maxHeartbeats 8000000
set_option maxRecDepth 100000
namespace Go.Proofs.YtbkngnjkaledlaaGreat.P8
open Go Go.RowKit Go.Lib Go.Maps Go.ChangeMaps Go.MapKept P3 P4
open P5 (Pg)
open P6 (Mt)
theorem plays_first (w : World) (s : ByteArray) (room : Int) (l : List OpW) (c1 : Nat) (id : Int) : (plays_cut w s room l c1 id).1 := by
 intro w1
 set_option tactic.hygienic false in intros
 have HB0 := Lib.hid (P3.new_at wr #[.int .i64 o.kind, .int .i64 o.A, .slice o.la o.L.length o.lc, .int .i64 o.M.tx, .int .i64 o.M.root, .int .i64 o.M.free, .int .i64 o.M.pages, .int .i64 o.D.kind, .string o.D.S, .string o.D.T, .int .i64 o.D.A, .int .i64 o.D.B, .bool o.D.own, .slice o.D.a o.D.L.length o.D.c] 45)
 have HBd := Lib.hid (P3.old_below HB0.out (Below.refl _ _).drew)
 have HSd := Lib.hid (HS.out.over (Below.refl _ _).drew)
 have HEarly := Lib.hid HS.out.below
 clear H
 by_cases k1 : o.kind = 1
 ·have b1 : (o.kind == 1) = true := by simp [k1]
  clear HST
  by_cases kl : 12 < o.L.length
  ·have b2 : decide ((12 : Int) < (o.L.length : Int)) = true := decide_eq_true (by omega)
   clear k1
   go_wp2
   go_ret
   exact ⟨rfl, HEarly.out⟩
  ·have b2 : decide ((12 : Int) < (o.L.length : Int)) = false := decide_eq_false (by omega)
   clear k1
   go_wp2
   go_loop [17] (fun vk => ∃ k : Nat, k ≤ o.L.length ∧ vk = .int .i64 k ∧ Hid (∀ (j : Nat) (p : Pg), j < k → o.L[j]? = some p → p.id ≤ 60)) (fun vk => o.L.length - (RowKit.intOf vk).toNat)
   case atStart => exact ⟨0, Nat.zero_le _, rfl, fun j p h => absurd h (Nat.not_lt_zero _)⟩
   case round =>
    obtain ⟨k, hk, rfl, HK⟩ := hrel
    by_cases hkl : k < o.L.length
    ·obtain ⟨p, hp⟩ : ∃ p, o.L[k]? = some p := ⟨_, List.getElem?_eq_getElem hkl⟩
     obtain ⟨B2, off2, e2, hx2⟩ := page_in8 HO.out.L hp
     obtain ⟨q1, q3⟩ := hx2 _ HEarly.out
     have HP := Lib.hid hp
     have k0 : (0 : Int) ≤ (k : Int) := by omega
     have b3 : decide ((k : Int) < (o.L.length : Int)) = true := decide_eq_true (by omega)
     have b3' : (k : Int) < (o.L.length : Int) := by omega
     have d2' := d2.trans (show some (Value.slice o.la o.L.length o.lc) = some (Value.slice (some ⟨B2, off2, none⟩) o.L.length o.lc) by rw [e2])
     clear hp hx2 e2 d2
     by_cases hb : 300 < p.body.size
     ·have b4 : decide ((300 : Int) < (p.body.size : Int)) = true := decide_eq_true (by omega)
      clear hb
      go_wp2
      go_ret
      exact ⟨rfl, HEarly.out⟩
     ·have b4 : decide ((300 : Int) < (p.body.size : Int)) = false := decide_eq_false (by omega)
      clear hb
      by_cases hi6 : 60 < p.id
      ·have b5 : decide (60 < p.id) = true := decide_eq_true hi6
       clear hi6
       go_wp2
       go_ret
       exact ⟨rfl, HEarly.out⟩
      ·have b5 : decide (60 < p.id) = false := decide_eq_false hi6
       have HK2 : Hid (∀ (j : Nat) (p : Pg), j < k + 1 → o.L[j]? = some p → p.id ≤ 60) := fun j p' hj hp' => by
        by_cases ej : j = k
        ·subst ej
         rw [HP.out] at hp'
         obtain rfl : p = p' := by simpa using hp'
         omega
        ·exact HK.out j p' (by omega) hp'
       clear hi6
       go_wp2
       go_round
       case rel => exact ⟨k + 1, by omega, by go_num, HK2⟩
       case measure => simp [RowKit.intOf]; omega
    ·have b3 : decide ((k : Int) < (o.L.length : Int)) = false := decide_eq_false (by omega)
     have hid60 : ∀ p ∈ o.L, p.id ≤ 60 := fun p hp => by
      obtain ⟨j, hj, he⟩ := List.mem_iff_getElem.1 hp
      exact HK.out j p (by omega) (by rw [List.getElem?_eq_getElem hj, he])
     have HPu := Lib.hid (HS.out.put (fb := w3.heap.size) mt1 HS1.out HS2.out ht6 HO.out.L hid60 (by omega))
     have HPd := Lib.hid (HSd.out.put (fb := w3.heap.size) mt1 HS1.out HS2.out ht6 HO.out.L hid60 (by omega))
     have HD : Hid (∀ W : World, W.heap[wr.heap.size]? = some (bObj o) → W.cell? ⟨wr.heap.size, 2, none⟩ = some (.slice o.la o.L.length o.lc)) := fun W hW => box_cell hW 2
     clear hid60 HK
     go_upto_region 24 with fail
     go_region_held3 (fun W => W.cell? ⟨wr.heap.size, 2, none⟩ = some (.slice o.la o.L.length o.lc)) (first | exact HD.out _ HB0.out | exact HD.out _ HBd.out | exact HD.out _ HX4.out | exact HD.out _ (P3.old_below HX4.out (Below.refl _ _).drew) | exact HD.out _ HX5.out) ((first
      | (go_at_call 9; (first | (with_reducible refine (HPd.out).mono ?_) | (with_reducible refine (HPu.out).mono ?_)); rintro e w4 ⟨z, rfl, hx, hc⟩; have HX4 := Lib.hid (show w4.heap[wr.heap.size]? = some (bObj o) from hx (wr.heap.size, bObj o) mt0); have HC4 := Lib.hid hc; have hzz : (z != z) = false := (by simp); clear hx hc)
      | (go_at_call 10; (with_reducible refine (HC4.out _ (by first | exact Below.refl _ _ | exact (Below.refl _ _).drew)).mono ?_); rintro e w5 ⟨rfl, hq⟩; have H5 := Lib.hid hq; have HX5 := Lib.hid (show w5.heap[wr.heap.size]? = some (bObj o) from hq.x (wr.heap.size, bObj o) mt0); clear hq)))
     all_goals
      go_wp2
      go_meet
      exact H5.out.sub mts (by omega)
 ·have b1 : (o.kind == 1) = false := beq_eq_false_iff_ne.2 k1
  by_cases k2 : o.kind = 2
  ·have b2 : (o.kind == 2) = true := by simp [k2]
   have HPu := Lib.hid (HS.out.setMeta (fb := w3.heap.size) mt1 HS1.out HS2.out ht6 o.M)
   have HPd := Lib.hid (HSd.out.setMeta (fb := w3.heap.size) mt1 HS1.out HS2.out ht6 o.M)
   have HD : Hid (∀ W : World, W.heap[wr.heap.size]? = some (bObj o) → W.cell? ⟨wr.heap.size, 3, none⟩ = some (.int .i64 o.M.tx) ∧ W.cell? ⟨wr.heap.size, 4, none⟩ = some (.int .i64 o.M.root) ∧ W.cell? ⟨wr.heap.size, 5, none⟩ = some (.int .i64 o.M.free) ∧ W.cell? ⟨wr.heap.size, 6, none⟩ = some (.int .i64 o.M.pages)) := fun W hW => ⟨box_cell hW 3, box_cell hW 4, box_cell hW 5, box_cell hW 6⟩
   clear HST k1 k2
   go_upto_region 27 with fail
   go_region_held3 (fun W => W.cell? ⟨wr.heap.size, 3, none⟩ = some (.int .i64 o.M.tx) ∧ W.cell? ⟨wr.heap.size, 4, none⟩ = some (.int .i64 o.M.root) ∧ W.cell? ⟨wr.heap.size, 5, none⟩ = some (.int .i64 o.M.free) ∧ W.cell? ⟨wr.heap.size, 6, none⟩ = some (.int .i64 o.M.pages)) (first | exact HD.out _ HB0.out | exact HD.out _ HBd.out | exact HD.out _ HX4.out | exact HD.out _ (P3.old_below HX4.out (Below.refl _ _).drew) | exact HD.out _ HX5.out) ((first
    | (go_at_call 11; (first | (with_reducible refine (HPd.out).mono ?_) | (with_reducible refine (HPu.out).mono ?_)); rintro e w4 ⟨z, rfl, hx, hc⟩; have HX4 := Lib.hid (show w4.heap[wr.heap.size]? = some (bObj o) from hx (wr.heap.size, bObj o) mt0); have HC4 := Lib.hid hc; have hzz : (z != z) = false := (by simp); clear hx hc)
    | (go_at_call 12; (with_reducible refine (HC4.out _ (by first | exact Below.refl _ _ | exact (Below.refl _ _).drew)).mono ?_); rintro e w5 ⟨rfl, hq⟩; have H5 := Lib.hid hq; have HX5 := Lib.hid (show w5.heap[wr.heap.size]? = some (bObj o) from hq.x (wr.heap.size, bObj o) mt0); clear hq)))
   all_goals
    go_wp2
    go_meet
    exact H5.out.sub mts (by omega)
  ·have b2 : (o.kind == 2) = false := beq_eq_false_iff_ne.2 k2
   by_cases k3 : o.kind = 3
   ·have b3 : (o.kind == 3) = true := by simp [k3]
    have HSy := Lib.hid (HS.out.sync ht6 (by have := HS2.out; unfold maxLen; omega))
    clear HST k1 k2 k3
    go_upto_region 31 with (go_at_call 13; (with_reducible refine (HSy.out).mono ?_); rintro e w4 ⟨z, rfl, hx, hc⟩; have HC4 := Lib.hid (hc _ (Below.refl _ _)); clear hx hc)
    by_cases hz : z = 8
    ·subst hz
     have HC5 : Hid (Calls Tryz.prog 14 #[.pointer (some ⟨b, 0, none⟩)] w4 fun e w2' => e = .returned (.int .i64 0) ∧ ST w w2' w1.heap.size w2.heap.size b s n [(wr.heap.size, bObj o), (w3.heap.size, fObj w2.heap.size s)] (75 * i + 75)) := HC4.out
     clear HC4
     go_wp2_with (go_at_call 14; (with_reducible refine (HC5.out).mono ?_); rintro e w5 ⟨rfl, hq⟩; have H5 := Lib.hid hq; clear hq)
     go_meet
     exact H5.out.sub mts (by omega)
    ·have bz : (z == 8) = false := beq_eq_false_iff_ne.2 hz
     have hzz : (z != z) = false := by simp
     have HC5 : Hid (Calls Tryz.prog 14 #[.pointer (some ⟨b, 0, none⟩)] w4 fun e w2' => e = .returned (.int .i64 z) ∧ ST w w2' w1.heap.size w2.heap.size b s n [(wr.heap.size, bObj o), (w3.heap.size, fObj w2.heap.size s)] (75 * i + 75)) := by have q := HC4.out; rw [if_neg hz] at q; exact q
     clear HC4 hz
     go_wp2_with (go_at_call 14; (with_reducible refine (HC5.out).mono ?_); rintro e w5 ⟨rfl, hq⟩; have H5 := Lib.hid hq; clear hq)
     go_meet
     exact H5.out.sub mts (by omega)
   ·have b3 : (o.kind == 3) = false := beq_eq_false_iff_ne.2 k3
    by_cases k4 : o.kind = 4
    ·have b4 : (o.kind == 4) = true := by simp [k4]
     clear k1 k2 k3 k4
     go_upto_region 37 with fail
     have HTb : (wr.alloc (.cells #[.int .i64 o.kind, .int .i64 o.A, .slice o.la o.L.length o.lc, .int .i64 o.M.tx, .int .i64 o.M.root, .int .i64 o.M.free, .int .i64 o.M.pages, .int .i64 o.D.kind, .string o.D.S, .string o.D.T, .int .i64 o.D.A, .int .i64 o.D.B, .bool true, .slice o.D.a o.D.L.length o.D.c] 45)).heap[wr.heap.size]? = some (Obj.cells #[.int .i64 o.kind, .int .i64 o.A, .slice o.la o.L.length o.lc, .int .i64 o.M.tx, .int .i64 o.M.root, .int .i64 o.M.free, .int .i64 o.M.pages, .int .i64 o.D.kind, .string o.D.S, .string o.D.T, .int .i64 o.D.A, .int .i64 o.D.B, .bool true, .slice o.D.a o.D.L.length o.D.c] 45 (0, 0)) := P3.new_at wr _ _
     have HTX : Hid (∀ W : World, W.heap[wr.heap.size]? = some (Obj.cells #[.int .i64 o.kind, .int .i64 o.A, .slice o.la o.L.length o.lc, .int .i64 o.M.tx, .int .i64 o.M.root, .int .i64 o.M.free, .int .i64 o.M.pages, .int .i64 o.D.kind, .string o.D.S, .string o.D.T, .int .i64 o.D.A, .int .i64 o.D.B, .bool true, .slice o.D.a o.D.L.length o.D.c] 45 (0, 0)) → W.cell? ⟨wr.heap.size, 0, none⟩ = some (.int .i64 o.kind) ∧ W.cell? ⟨wr.heap.size, 1, none⟩ = some (.int .i64 o.A) ∧ W.cell? ⟨wr.heap.size, 2, none⟩ = some (.slice o.la o.L.length o.lc) ∧ W.cell? ⟨wr.heap.size, 3, none⟩ = some (.int .i64 o.M.tx) ∧ W.cell? ⟨wr.heap.size, 4, none⟩ = some (.int .i64 o.M.root) ∧ W.cell? ⟨wr.heap.size, 5, none⟩ = some (.int .i64 o.M.free) ∧ W.cell? ⟨wr.heap.size, 6, none⟩ = some (.int .i64 o.M.pages) ∧ W.cell? ⟨wr.heap.size, 7, none⟩ = some (.int .i64 o.D.kind) ∧ W.cell? ⟨wr.heap.size, 8, none⟩ = some (.string o.D.S) ∧ W.cell? ⟨wr.heap.size, 9, none⟩ = some (.string o.D.T) ∧ W.cell? ⟨wr.heap.size, 10, none⟩ = some (.int .i64 o.D.A) ∧ W.cell? ⟨wr.heap.size, 11, none⟩ = some (.int .i64 o.D.B) ∧ W.cell? ⟨wr.heap.size, 12, none⟩ = some (.bool true) ∧ W.cell? ⟨wr.heap.size, 13, none⟩ = some (.slice o.D.a o.D.L.length o.D.c)) := fun W hW => ⟨P3.cell_at hW 0, P3.cell_at hW 1, P3.cell_at hW 2, P3.cell_at hW 3, P3.cell_at hW 4, P3.cell_at hW 5, P3.cell_at hW 6, P3.cell_at hW 7, P3.cell_at hW 8, P3.cell_at hW 9, P3.cell_at hW 10, P3.cell_at hW 11, P3.cell_at hW 12, P3.cell_at hW 13⟩
     obtain ⟨t0, t1, t2, t3, t4, t5, t6, t7, t8, t9, t10, t11, t12, t13⟩ := HTX.out _ HTb
     have HLt : Hid (Calls Tryz.prog 15 #[.slice (some ⟨wr.heap.size + 1, 0, none⟩) 1 1] ((wr.alloc (.cells #[.int .i64 o.kind, .int .i64 o.A, .slice o.la o.L.length o.lc, .int .i64 o.M.tx, .int .i64 o.M.root, .int .i64 o.M.free, .int .i64 o.M.pages, .int .i64 o.D.kind, .string o.D.S, .string o.D.T, .int .i64 o.D.A, .int .i64 o.D.B, .bool true, .slice o.D.a o.D.L.length o.D.c] 45)).alloc (.cells #[.int .i64 o.D.kind, .string o.D.S, .string o.D.T, .int .i64 o.D.A, .int .i64 o.D.B, .bool true, .slice o.D.a o.D.L.length o.D.c] 43)) fun e w' => ∃ B : Bool, e = .returned (.bool B) ∧ (B = true → o.D.L.length ≤ 6000) ∧ Below (wr.alloc (.cells #[.int .i64 o.kind, .int .i64 o.A, .slice o.la o.L.length o.lc, .int .i64 o.M.tx, .int .i64 o.M.root, .int .i64 o.M.free, .int .i64 o.M.pages, .int .i64 o.D.kind, .string o.D.S, .string o.D.T, .int .i64 o.D.A, .int .i64 o.D.B, .bool true, .slice o.D.a o.D.L.length o.D.c] 45)).heap.size (wr.alloc (.cells #[.int .i64 o.kind, .int .i64 o.A, .slice o.la o.L.length o.lc, .int .i64 o.M.tx, .int .i64 o.M.root, .int .i64 o.M.free, .int .i64 o.M.pages, .int .i64 o.D.kind, .string o.D.S, .string o.D.T, .int .i64 o.D.A, .int .i64 o.D.B, .bool true, .slice o.D.a o.D.L.length o.D.c] 45)) w') := light_one w (wr.alloc (.cells #[.int .i64 o.kind, .int .i64 o.A, .slice o.la o.L.length o.lc, .int .i64 o.M.tx, .int .i64 o.M.root, .int .i64 o.M.free, .int .i64 o.M.pages, .int .i64 o.D.kind, .string o.D.S, .string o.D.T, .int .i64 o.D.A, .int .i64 o.D.B, .bool true, .slice o.D.a o.D.L.length o.D.c] 45)) (wr.heap.size + 1) (by simp) { o.D with own := true } (own_ok HO.out.D) HST.out.below
     have HAct : Hid (∀ W, ST w W w1.heap.size w2.heap.size b s n [(wr.heap.size, Obj.cells #[.int .i64 o.kind, .int .i64 o.A, .slice o.la o.L.length o.lc, .int .i64 o.M.tx, .int .i64 o.M.root, .int .i64 o.M.free, .int .i64 o.M.pages, .int .i64 o.D.kind, .string o.D.S, .string o.D.T, .int .i64 o.D.A, .int .i64 o.D.B, .bool true, .slice o.D.a o.D.L.length o.D.c] 45 (0, 0)), (w3.heap.size, fObj w2.heap.size s)] (75 * i) → o.D.L.length ≤ 6000 → Calls Tryz.prog 16 #[.pointer (some ⟨w1.heap.size, 0, none⟩), .pointer (some ⟨w2.heap.size, 0, none⟩), .agg #[.int .i64 o.D.kind, .string o.D.S, .string o.D.T, .int .i64 o.D.A, .int .i64 o.D.B, .bool true, .slice o.D.a o.D.L.length o.D.c]] W fun e w' => e = .returned (.bool true) ∧ ST w w' w1.heap.size w2.heap.size b s n [(wr.heap.size, Obj.cells #[.int .i64 o.kind, .int .i64 o.A, .slice o.la o.L.length o.lc, .int .i64 o.M.tx, .int .i64 o.M.root, .int .i64 o.M.free, .int .i64 o.M.pages, .int .i64 o.D.kind, .string o.D.S, .string o.D.T, .int .i64 o.D.A, .int .i64 o.D.B, .bool true, .slice o.D.a o.D.L.length o.D.c] 45 (0, 0)), (w3.heap.size, fObj w2.heap.size s)] (75 * i + 75)) := fun W k hlen => k.act (by omega) { o.D with own := true } (own_ok HO.out.D) (by show o.D.L.length ≤ 10000; omega)
     clear HTb
     by_cases k11 : o.D.kind = 11
     ·have b5 : (o.D.kind == 11) = true := by simp [k11]
      clear k11 HAct
      go_wp2_with (go_at_call 15; (with_reducible refine (HLt.out).mono ?_); rintro e w4 ⟨bb, rfl, h1, hb⟩; have H4 := Lib.hid (HST.out.over hb); obtain ⟨y0, y1, y2, y3, y4, y5, y6, y7, y8, y9, y10, y11, y12, y13⟩ := HTX.out _ (H4.out.x (wr.heap.size, Obj.cells #[.int .i64 o.kind, .int .i64 o.A, .slice o.la o.L.length o.lc, .int .i64 o.M.tx, .int .i64 o.M.root, .int .i64 o.M.free, .int .i64 o.M.pages, .int .i64 o.D.kind, .string o.D.S, .string o.D.T, .int .i64 o.D.A, .int .i64 o.D.B, .bool true, .slice o.D.a o.D.L.length o.D.c] 45 (0, 0)) mt0); clear h1 hb)
      all_goals
       go_ret
       exact ⟨rfl, H4.out.below⟩
     ·have b5 : (o.D.kind == 11) = false := beq_eq_false_iff_ne.2 k11
      clear k11
      go_wp2_with (first
       | (go_at_call 15; (with_reducible refine (HLt.out).mono ?_); rintro e w4 ⟨bb, rfl, h1, hb⟩; have HL1 := Lib.hid h1; have H4 := Lib.hid (HST.out.over hb); obtain ⟨y0, y1, y2, y3, y4, y5, y6, y7, y8, y9, y10, y11, y12, y13⟩ := HTX.out _ (H4.out.x (wr.heap.size, Obj.cells #[.int .i64 o.kind, .int .i64 o.A, .slice o.la o.L.length o.lc, .int .i64 o.M.tx, .int .i64 o.M.root, .int .i64 o.M.free, .int .i64 o.M.pages, .int .i64 o.D.kind, .string o.D.S, .string o.D.T, .int .i64 o.D.A, .int .i64 o.D.B, .bool true, .slice o.D.a o.D.L.length o.D.c] 45 (0, 0)) mt0); clear h1 hb)
       | (go_at_call 16; (with_reducible refine (HAct.out _ H4.out (by first | exact HL1.out rfl | exact HL1.out (by assumption))).mono ?_); rintro e w5 ⟨rfl, hq⟩; have H5 := Lib.hid hq; clear hq))
      all_goals
       first
        | (go_meet; exact H5.out.sub mts (by omega))
        | (go_ret; exact ⟨rfl, H4.out.below⟩)
    ·have b4 : (o.kind == 4) = false := beq_eq_false_iff_ne.2 k4
     clear HST k1 k2 k3 k4
     go_wp2
     go_meet
     exact HS.out.sub mts (by omega)
theorem plays_main (w : World) (s : ByteArray) (room : Int) (l : List OpW) (a1 : Option Addr) (c1 : Nat) (id : Int) (hl : OpsIn w (.slice a1 l.length c1) l) (h30 : l.length ≤ 30) (hs1 : 1 ≤ s.size) (hs2 : s.size ≤ 40) :
  Calls Tryz.prog 3 #[.string s, .int .i64 room, .slice a1 l.length c1, .int .i64 id] w fun e w' => e = .returned (.bool true) ∧ Below w.heap.size w w' :=
 (plays_cut w s room l c1 id).2 ⟨plays_first w s room l c1 id⟩ a1 hl h30 hs1 hs2
end Go.Proofs.YtbkngnjkaledlaaGreat.P8
