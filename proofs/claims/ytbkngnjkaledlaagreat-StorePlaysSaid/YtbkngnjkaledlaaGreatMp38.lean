/-
  Texts of the proof of SaidPlay8b.
-/
import Derived.Test.YtbkngnjkaledlaaGreatMp37
set_option maxHeartbeats 8000000
set_option maxRecDepth 100000
namespace Go.Proofs.YtbkngnjkaledlaaGreat.P8
open Go Go.RowKit Go.Lib Go.Maps Go.ChangeMaps Go.MapKept P3 P4
open P6 (Mt meta_result chM chE rchoose_any)
section
variable {a W W' : World} {b r : Nat} {s : ByteArray} {D : RM} {ks : List Int}
def metaR (D : RM) (s : ByteArray) : Mt × Int := metaOf (!D.off) (P4.readR D s 0).1 (P4.readR D s 1).1
structure MF8 (a W : World) (b r : Nat) (s : ByteArray) (D : RM) (ks : List Int) (w : World) : Prop where
 fb : FB a w b r s D ks
 res : w.heap[W.heap.size]? = some (.cells #[.int .i64 0, .int .i64 0, .int .i64 0, .int .i64 0] 41 (0, 0))
 below : Below W.heap.size W w
theorem MF8.made (h : FB a W b r s D ks) : MF8 a W b r s D ks (W.alloc (.cells #[.int .i64 0, .int .i64 0, .int .i64 0, .int .i64 0] 41)) := ⟨h.over (P3.below_new W _), P3.new_at W _ _, P3.below_new W _⟩
theorem MF8.over {w w' : World} (h : MF8 a W b r s D ks w) (hb : Below w.heap.size w w') : MF8 a W b r s D ks w' := ⟨h.fb.over hb, P3.old_below h.res hb, thenBelow h.below hb⟩
theorem MF8.cells {w : World} (h : MF8 a W b r s D ks w) : w.cell? ⟨b, 0, none⟩ = some (.pointer (some ⟨r, 0, none⟩)) ∧ w.cell? ⟨b, 1, none⟩ = some (.string s) := h.fb.cells
theorem MF8.fin {w : World} (h : MF8 a W b r s D ks w) (x y z t : Value) :
  (((((w.setCell ⟨W.heap.size, 0, none⟩ x).setCell ⟨W.heap.size, 1, none⟩ y).setCell ⟨W.heap.size, 2, none⟩ z).setCell ⟨W.heap.size, 3, none⟩ t).heap[W.heap.size]? = some (.cells #[x, y, z, t] 41 (0, 0))) ∧ Below W.heap.size W ((((w.setCell ⟨W.heap.size, 0, none⟩ x).setCell ⟨W.heap.size, 1, none⟩ y).setCell ⟨W.heap.size, 2, none⟩ z).setCell ⟨W.heap.size, 3, none⟩ t) :=
 ⟨P3.set_at (P3.set_at (P3.set_at (P3.set_at h.res 0 x) 1 y) 2 z) 3 t, (((h.below.setCell (Nat.le_refl _) x).setCell (Nat.le_refl _) y).setCell (Nat.le_refl _) z).setCell (Nat.le_refl _) t⟩
theorem FB.meta_ (h : FB a W b r s D ks) :
  Calls Tryz.prog 20 #[.pointer (some ⟨b, 0, none⟩)] W fun e w2 => e = .returned (.tuple #[(metaR D s).1.v, .int .i64 (metaR D s).2]) ∧ Below W.heap.size W w2 := by
 have HM := Lib.hid (MF8.made h)
 obtain ⟨m0, m1⟩ := (MF8.made h).cells
 have m2 : (W.alloc (.cells #[.int .i64 0, .int .i64 0, .int .i64 0, .int .i64 0] 41)).cell? ⟨r, 2, none⟩ = some (.bool D.off) := (MF8.made h).fb.at'.cell 2
 unfold metaR metaOf
 cases hoff : D.off with
 | true =>
  rw [hoff] at m2
  rw [if_pos (by rfl)]
  clear h hoff
  go_enter Tryz.func20, Tryz.ntmps20
  go_wp2
  exact bodyPost_ret (meta_result rfl _ _ W.heap.size _ rfl HM.out.res rfl) rfl ⟨rfl, HM.out.below⟩
 | false =>
  rw [hoff] at m2
  rw [if_neg (by decide)]
  obtain ⟨s0, hs0⟩ : ∃ x, x = (P4.readR D s 0).1 := ⟨_, rfl⟩
  obtain ⟨s1, hs1⟩ : ∃ x, x = (P4.readR D s 1).1 := ⟨_, rfl⟩
  obtain ⟨e0, he0⟩ : ∃ x, x = (P4.readR D s 0).2 := ⟨_, rfl⟩
  obtain ⟨e1, he1⟩ : ∃ x, x = (P4.readR D s 1).2 := ⟨_, rfl⟩
  have HR0 : Hid (∀ w, MF8 a W b r s D ks w → Calls Tryz.prog 66 #[.pointer (some ⟨r, 0, none⟩), .string s, .int .i64 0] w fun e w' => e = .returned (.tuple #[.string s0, .int .i64 e0]) ∧ Below w.heap.size w w') := fun w k => by rw [hs0, he0]; exact k.fb.at'.read s 0
  have HR1 : Hid (∀ w, MF8 a W b r s D ks w → Calls Tryz.prog 66 #[.pointer (some ⟨r, 0, none⟩), .string s, .int .i64 1] w fun e w' => e = .returned (.tuple #[.string s1, .int .i64 e1]) ∧ Below w.heap.size w w') := fun w k => by rw [hs1, he1]; exact k.fb.at'.read s 1
  rw [← hs0, ← hs1]
  obtain ⟨M, hM⟩ : ∃ M, M = chM s0 s1 := ⟨_, rfl⟩
  obtain ⟨E, hE⟩ : ∃ E, E = chE s0 s1 := ⟨_, rfl⟩
  have HC : Hid (∀ w, Calls Tryz.prog 71 #[.string s0, .string s1] w fun e w' => e = .returned (.tuple #[.agg #[.int .i64 M.tx, .int .i64 M.root, .int .i64 M.free, .int .i64 M.pages], .int .i64 E]) ∧ Below w.heap.size w w') := fun w => by
   have q := rchoose_any w s0 s1
   rw [← hM, ← hE] at q
   exact q
  rw [← hM, ← hE]
  have HX : Hid (∀ w, MF8 a W b r s D ks w → w.cell? ⟨b, 0, none⟩ = some (.pointer (some ⟨r, 0, none⟩)) ∧ w.cell? ⟨b, 1, none⟩ = some (.string s)) := fun _ k => k.cells
  have HMd := Lib.hid (HM.out.over (Below.refl _ _).drew)
  clear h hoff hs0 hs1 he0 he1 hM hE
  go_enter Tryz.func20, Tryz.ntmps20
  go_upto_region 3 with fail
  go_cut [4, 5] from 18 to 29 (fun v e w' => v = .string s0 ∧ MF8 a W b r s D ks w')
  case first =>
   go_region_held3 (fun W' => W'.cell? ⟨b, 0, none⟩ = some (.pointer (some ⟨r, 0, none⟩)) ∧ W'.cell? ⟨b, 1, none⟩ = some (.string s)) (first | exact HX.out _ HM.out | exact HX.out _ HMd.out | exact HX.out _ H2.out)
    ((go_at_call 66; (with_reducible refine (HR0.out _ (by first | exact HMd.out | exact HM.out)).mono ?_); rintro e w2 ⟨rfl, hb⟩; have H2 := Lib.hid (show MF8 a W b r s D ks w2 from (by first | exact HMd.out.over hb | exact HM.out.over hb)); clear hb))
   all_goals
    go_wp2
    go_meet
    exact ⟨rfl, H2.out⟩
  case rest =>
   obtain ⟨rfl, HN⟩ := hcut
   clear HM HMd m0 m1 m2
   have HM := Lib.hid HN
   have HMd := Lib.hid (HN.over (Below.refl _ _).drew)
   clear HN
   go_upto_region 4 with fail
   go_cut [6, 7] from 30 to 41 (fun v e w' => v = .string s1 ∧ MF8 a W b r s D ks w')
   case first =>
    go_region_held3 (fun W' => W'.cell? ⟨b, 0, none⟩ = some (.pointer (some ⟨r, 0, none⟩)) ∧ W'.cell? ⟨b, 1, none⟩ = some (.string s)) (first | exact HX.out _ HM.out | exact HX.out _ HMd.out | exact HX.out _ H2.out)
     ((go_at_call 66; (with_reducible refine (HR1.out _ (by first | exact HMd.out | exact HM.out)).mono ?_); rintro e w2 ⟨rfl, hb⟩; have H2 := Lib.hid (show MF8 a W b r s D ks w2 from (by first | exact HMd.out.over hb | exact HM.out.over hb)); clear hb))
    all_goals
     go_wp2
     go_meet
     exact ⟨rfl, H2.out⟩
   case rest =>
    obtain ⟨rfl, HN⟩ := hcut
    clear HM HMd HX HR0 HR1
    have HN := Lib.hid HN
    go_wp2_with (go_at_call 71; (with_reducible refine (HC.out _).mono ?_); rintro e w5 ⟨rfl, hb⟩; have H5 := Lib.hid ((HN.out.over hb).over (P3.below_new w5 (.cells #[.int .i64 M.tx, .int .i64 M.root, .int .i64 M.free, .int .i64 M.pages] 93))); obtain ⟨r0, r1, r2, r3⟩ := P6.cells4 H5.out.res; obtain ⟨f0, f1, f2, f3⟩ := P6.free4 H5.out.res; obtain ⟨g0, g1, g2, g3⟩ := P6.cells4 (P3.new_at w5 #[.int .i64 M.tx, .int .i64 M.root, .int .i64 M.free, .int .i64 M.pages] 93); clear hb)
    obtain ⟨q1, q2⟩ := H5.out.fin (.int .i64 M.tx) (.int .i64 M.root) (.int .i64 M.free) (.int .i64 M.pages)
    exact bodyPost_ret (meta_result rfl _ _ W.heap.size _ rfl q1 rfl) rfl ⟨rfl, q2⟩
end
end Go.Proofs.YtbkngnjkaledlaaGreat.P8
namespace Go.Proofs.YtbkngnjkaledlaaGreat.P8
open Go Go.RowKit Go.Lib Go.Maps Go.ChangeMaps Go.MapKept P3 P4
open P5 (Pg zer)
open P6 (Mt mlay_any mlaidB mlaidE slot_any)
section
variable {w W W' : World} {b d m0 : Nat} {s : ByteArray} {n : Int} {K : Dk}
def metaW (m0 : Nat) (m : Mt) : List (Int × ByteArray) := zerosW (zer 256) m0 2 ++ [(m.tx % 2, m.sector)]
theorem setmeta_bad (h : SD w b d s n K) (m : Mt) (hm : ¬ m.ok) : Calls Tryz.prog 11 #[.pointer (some ⟨b, 0, none⟩), m.v] w fun e w' => e = .returned (.int .i64 1) ∧ Below w.heap.size w w' := by
 have HH := Lib.hid (P3.below_new w (.cells #[.int .i64 m.tx, .int .i64 m.root, .int .i64 m.free, .int .i64 m.pages] 41))
 have HL : Hid (∀ W, Calls Tryz.prog 39 #[.agg #[.int .i64 m.tx, .int .i64 m.root, .int .i64 m.free, .int .i64 m.pages]] W fun e w' => e = .returned (.tuple #[.string ⟨#[]⟩, .int .i64 1]) ∧ Below W.heap.size W w') := fun W => by
  have q := mlay_any W m
  rw [show mlaidB m = ⟨#[]⟩ from if_neg hm, show mlaidE m = 1 from if_neg hm] at q
  exact q
 have hn := P3.new_at w #[.int .i64 m.tx, .int .i64 m.root, .int .i64 m.free, .int .i64 m.pages] 41
 obtain ⟨p0, p1, p2, p3⟩ := P6.cells4 hn
 show Calls Tryz.prog 11 #[.pointer (some ⟨b, 0, none⟩), .agg #[.int .i64 m.tx, .int .i64 m.root, .int .i64 m.free, .int .i64 m.pages]] w _
 clear h hm hn
 go_enter Tryz.func11, Tryz.ntmps11
 go_wp2_with (go_at_call 39; (with_reducible refine (HL.out _).mono ?_); rintro e w2 ⟨rfl, hb⟩; have H2 := Lib.hid (thenBelow HH.out hb); clear hb)
 go_ret
 exact ⟨rfl, H2.out⟩
theorem SD.setMeta (h : SD w b d s n K) (m : Mt) (hok : m.ok) (hm : SzF K s m0) (hm2 : m0 ≤ 100000) (hs : s.size ≤ maxLen) (hl : K.left ≤ 9223372036854775807) (ht : K.turn + 3 < 8999) :
  Calls Tryz.prog 11 #[.pointer (some ⟨b, 0, none⟩), m.v] w fun e w2 => ∃ z K2, e = .returned (.int .i64 z) ∧ Did w b d s n K (metaW m0 m) z w2 K2 := by
 have hz : m.sector.size = 256 := P6.Mt.sector_size hok
 have hr := P6.Mt.ok_range hok
 obtain ⟨S, hS⟩ : ∃ S, S = m.sector := ⟨_, rfl⟩
 have HL : Hid (∀ W, Calls Tryz.prog 39 #[.agg #[.int .i64 m.tx, .int .i64 m.root, .int .i64 m.free, .int .i64 m.pages]] W fun e w' => e = .returned (.tuple #[.string S, .int .i64 0]) ∧ Below W.heap.size W w') := fun W => by
  have q := mlay_any W m
  rw [show mlaidB m = m.sector from if_pos hok, show mlaidE m = 0 from if_pos hok] at q
  rw [hS]
  exact q
 have hsz : S.size ≤ maxLen := by rw [hS, hz]; decide
 unfold metaW
 rw [← hS]
 obtain ⟨tx, htx⟩ : ∃ x : Int, x = m.tx % 2 := ⟨_, rfl⟩
 have HSl : Hid (∀ W, Calls Tryz.prog 42 #[.int .i64 m.tx] W fun e w' => e = .returned (.int .i64 tx) ∧ W = w') := fun W => by rw [htx]; exact slot_any W m.tx (by omega) (by omega)
 rw [← htx]
 have HF : Hid (∀ W, SD W b d s n K → Calls Tryz.prog 40 #[.pointer (some ⟨b, 0, none⟩), .int .i64 2] W fun e w2 => ∃ z K2, e = .returned (.int .i64 z) ∧ Did W b d s n K (zerosW (zer 256) m0 2) z w2 K2 ∧ (z = 0 → SzF K2 s (max m0 2) ∧ K2.turn ≤ K.turn + (2 - m0))) := fun W k => k.fill 2 (by omega) hm hm2 hs hl (by omega)
 have HWr : Hid (∀ W K1, Did w b d s n K (zerosW (zer 256) m0 2) 0 W K1 → SzF K1 s (max m0 2) → K1.turn ≤ K.turn + (2 - m0) → ¬ K1.foot d w.heap.size → W.heap[w.heap.size]? = some (.cells #[.int .i64 m.tx, .int .i64 m.root, .int .i64 m.free, .int .i64 m.pages] 41 (0, 0)) → Calls Tryz.prog 41 #[.pointer (some ⟨d, 0, none⟩), .string s, .int .i64 tx, .string S] W fun e w2 => ∃ z K2, e = .returned (.int .i64 z) ∧ SD w2 b d s n K2 ∧ Did w b d s n K (zerosW (zer 256) m0 2 ++ [(tx, S)]) z w2 K2 ∧ w2.heap[w.heap.size]? = some (.cells #[.int .i64 m.tx, .int .i64 m.root, .int .i64 m.free, .int .i64 m.pages] 41 (0, 0))) := fun W K1 k1 k2 k3 k4 k5 => by
  have q := k1.tr.left
  refine (k1.sd.write k2 hs (by omega) (by omega) tx S hsz).mono ?_
  rintro e w2 ⟨z, K2, rfl, h1, h2⟩
  exact ⟨z, K2, rfl, h1.sd, k1.app h1, h1.st.fr.keep k5 k4⟩
 have HB : Hid (∀ W, Below (w.alloc (.cells #[.int .i64 m.tx, .int .i64 m.root, .int .i64 m.free, .int .i64 m.pages] 41)).heap.size (w.alloc (.cells #[.int .i64 m.tx, .int .i64 m.root, .int .i64 m.free, .int .i64 m.pages] 41)) W → W.heap[w.heap.size]? = some (.cells #[.int .i64 m.tx, .int .i64 m.root, .int .i64 m.free, .int .i64 m.pages] 41 (0, 0)) ∧ SD W b d s n K ∧ Below w.heap.size w W) := fun W hb =>
  ⟨P3.old_below (P3.new_at w _ _) hb, h.below (thenBelow (P3.below_new w _) hb), thenBelow (P3.below_new w _) hb⟩
 have HG : Hid (∀ W W2 z K2, Below w.heap.size w W → Did W b d s n K (zerosW (zer 256) m0 2) z W2 K2 → Did w b d s n K (zerosW (zer 256) m0 2) z W2 K2) := fun W W2 z K2 hb k => ⟨k.tr, k.sd, (Step.below h.2.1 hb).trans k.st⟩
 have HK : Hid (∀ W W2 z K2, Below w.heap.size w W → W.heap[w.heap.size]? = some (.cells #[.int .i64 m.tx, .int .i64 m.root, .int .i64 m.free, .int .i64 m.pages] 41 (0, 0)) → Did W b d s n K (zerosW (zer 256) m0 2) z W2 K2 → W2.heap[w.heap.size]? = some (.cells #[.int .i64 m.tx, .int .i64 m.root, .int .i64 m.free, .int .i64 m.pages] 41 (0, 0)) ∧ ¬ K2.foot d w.heap.size) := fun W W2 z K2 hb hw k =>
  ⟨k.st.fr.keep hw (fun q => Nat.lt_irrefl _ (h.2.1.foot_lt _ q)), fun q => (k.st.foot _ q).elim (fun q => Nat.lt_irrefl _ (h.2.1.foot_lt _ q)) (fun q => by have := P3.lt_of_block hw; omega)⟩
 have HX : Hid (∀ W K', SD W b d s n K' → W.cell? ⟨b, 0, none⟩ = some (.pointer (some ⟨d, 0, none⟩)) ∧ W.cell? ⟨b, 1, none⟩ = some (.string s)) := fun _ _ k => k.cells
 have hb0 := HB.out _ (Below.refl _ _)
 obtain ⟨p0, p1, p2, p3⟩ := P6.cells4 hb0.1
 show Calls Tryz.prog 11 #[.pointer (some ⟨b, 0, none⟩), .agg #[.int .i64 m.tx, .int .i64 m.root, .int .i64 m.free, .int .i64 m.pages]] w _
 clear h hm hl ht hz hS htx hb0 hok hr
 go_enter Tryz.func11, Tryz.ntmps11
 go_upto_region 6 with (go_at_call 39; (with_reducible refine (HL.out _).mono ?_); rintro e w2 ⟨rfl, hb⟩; obtain ⟨g1, g2, g3⟩ := HB.out _ hb; have G1 := Lib.hid g1; have G2 := Lib.hid g2; have G3 := Lib.hid g3; clear hb g1 g2 g3)
 clear p0 p1 p2 p3 HL HB
 go_upto_region 7 with (go_at_call 40; (with_reducible refine (HF.out _ G2.out).mono ?_); rintro e w4 ⟨z, K1, rfl, hd, hz⟩; have H4 := Lib.hid (HG.out _ _ _ _ G3.out hd); have Z4 := Lib.hid hz; have G4 := Lib.hid (HK.out _ _ _ _ G3.out G1.out hd); clear hd hz)
 clear HF HG HK G1 G2 G3
 by_cases hz : z = 0
 ·subst hz
  obtain ⟨z1, z2⟩ := Z4.out rfl
  have Hd := Lib.hid (H4.out.over (Below.refl _ _).drew)
  have HW := Lib.hid (HWr.out _ _ H4.out z1 z2 G4.out.2 G4.out.1)
  have HWd := Lib.hid (HWr.out _ _ Hd.out z1 z2 G4.out.2 (P3.old_below G4.out.1 (Below.refl _ _).drew))
  clear z1 z2 Z4 HWr
  go_upto_region 9 with fail
  go_region_held3 (fun W' => W'.cell? ⟨b, 0, none⟩ = some (.pointer (some ⟨d, 0, none⟩)) ∧ W'.cell? ⟨b, 1, none⟩ = some (.string s) ∧ W'.cell? ⟨w.heap.size, 0, none⟩ = some (.int .i64 m.tx)) (first | exact ⟨(HX.out _ _ H4.out.sd).1, (HX.out _ _ H4.out.sd).2, by rw [P3.cell_at G4.out.1]; rfl⟩ | exact ⟨(HX.out _ _ Hd.out.sd).1, (HX.out _ _ Hd.out.sd).2, by rw [P3.cell_at (P3.old_below G4.out.1 (Below.refl _ _).drew)]; rfl⟩ | exact ⟨(HX.out _ _ H5.out.1).1, (HX.out _ _ H5.out.1).2, by rw [P3.cell_at H5.out.2.2]; rfl⟩)
   ((first
    | (go_at_call 42; (with_reducible refine (HSl.out _).mono ?_); rintro e w6 ⟨rfl, rfl⟩)
    | (go_at_call 41; (first | (with_reducible refine (HWd.out).mono ?_) | (with_reducible refine (HW.out).mono ?_)); rintro e w5 ⟨y, K2, rfl, h⟩; have H5 := Lib.hid h; clear h)))
  all_goals
   go_wp2
   go_ret
   exact ⟨y, K2, rfl, H5.out.2.1⟩
 ·have k2 : (z != 0) = true := by simp [hz]
  go_wp2
  go_ret
  exact ⟨z, K1, rfl, H4.out.stop hz _⟩
end
end Go.Proofs.YtbkngnjkaledlaaGreat.P8
namespace Go.Proofs.YtbkngnjkaledlaaGreat.P8
open Go Go.RowKit Go.Lib Go.Maps Go.ChangeMaps Go.MapKept P3 P4
open P5 (zer)
open P6 (Mt rmvalid_any rmlay_ok)
section
variable {a W W' : World} {b r d : Nat} {s : ByteArray} {D D0 : RM} {K K2 : Dk} {ks : List Int} {z : Int}
structure MB (W : World) (m : Mt) (w : World) : Prop where
 hm : w.heap[W.heap.size]? = some (.cells #[.int .i64 m.tx, .int .i64 m.root, .int .i64 m.free, .int .i64 m.pages] 41 (0, 0))
 hr : w.heap[W.heap.size + 1]? = some (.cells #[.int .i64 m.tx, .int .i64 m.root, .int .i64 m.free, .int .i64 m.pages] 93 (0, 0))
 below : Below W.heap.size W w
theorem MB.made (W : World) (m : Mt) : MB W m ((W.alloc (.cells #[.int .i64 m.tx, .int .i64 m.root, .int .i64 m.free, .int .i64 m.pages] 41)).alloc (.cells #[.int .i64 m.tx, .int .i64 m.root, .int .i64 m.free, .int .i64 m.pages] 93)) := by
 refine ⟨P3.old_alloc (P3.new_at W _ _) _, ?_, P3.grow (P3.below_new W _) _⟩
 have := P3.new_at (W.alloc (.cells #[.int .i64 m.tx, .int .i64 m.root, .int .i64 m.free, .int .i64 m.pages] 41)) #[.int .i64 m.tx, .int .i64 m.root, .int .i64 m.free, .int .i64 m.pages] 93
 simpa using this
theorem MB.over {m : Mt} {w w' : World} (h : MB W m w) (hb : Below w.heap.size w w') : MB W m w' := ⟨P3.old_below h.hm hb, P3.old_below h.hr hb, thenBelow h.below hb⟩
theorem setmetaR_bad (W : World) (b : Nat) (m : Mt) (hm : ¬ m.ok) : Calls Tryz.prog 12 #[.pointer (some ⟨b, 0, none⟩), m.v] W fun e w' => e = .returned (.int .i64 1) ∧ Below W.heap.size W w' := by
 have HV : Hid (∀ W', Calls Tryz.prog 43 #[.agg #[.int .i64 m.tx, .int .i64 m.root, .int .i64 m.free, .int .i64 m.pages]] W' fun e w' => e = .returned (.bool false) ∧ Below W'.heap.size W' w') := fun W' => by
  have q := rmvalid_any W' m
  rw [decide_eq_false hm] at q
  exact q
 have HM := Lib.hid (MB.made W m)
 obtain ⟨p0, p1, p2, p3⟩ := P6.cells4 (P3.new_at W #[.int .i64 m.tx, .int .i64 m.root, .int .i64 m.free, .int .i64 m.pages] 41)
 obtain ⟨q0, q1, q2, q3⟩ := P6.cells4 HM.out.hr
 show Calls Tryz.prog 12 #[.pointer (some ⟨b, 0, none⟩), .agg #[.int .i64 m.tx, .int .i64 m.root, .int .i64 m.free, .int .i64 m.pages]] W _
 clear hm
 go_enter Tryz.func12, Tryz.ntmps12
 go_wp2_with (go_at_call 43; (with_reducible refine (HV.out _).mono ?_); rintro e w2 ⟨rfl, hb⟩; have H2 := Lib.hid (HM.out.over hb); clear hb)
 go_ret
 exact ⟨rfl, H2.out.below⟩
theorem FB.setMeta_off (h : FB a W b r s D ks) (hoff : D.off = true) (m : Mt) (hm : m.ok) : Calls Tryz.prog 12 #[.pointer (some ⟨b, 0, none⟩), m.v] W fun e w' => e = .returned (.int .i64 14) ∧ Below W.heap.size W w' := by
 have HV : Hid (∀ W', Calls Tryz.prog 43 #[.agg #[.int .i64 m.tx, .int .i64 m.root, .int .i64 m.free, .int .i64 m.pages]] W' fun e w' => e = .returned (.bool true) ∧ Below W'.heap.size W' w') := fun W' => by
  have q := rmvalid_any W' m
  rw [decide_eq_true hm] at q
  exact q
 have HM := Lib.hid (MB.made W m)
 have HF : Hid (∀ w, MB W m w → Calls Tryz.prog 36 #[.pointer (some ⟨b, 0, none⟩), .int .i64 2] w fun e w' => e = .returned (.int .i64 14) ∧ Below w.heap.size w w') := fun w k => (h.over k.below).fill_off hoff 2
 obtain ⟨p0, p1, p2, p3⟩ := P6.cells4 (P3.new_at W #[.int .i64 m.tx, .int .i64 m.root, .int .i64 m.free, .int .i64 m.pages] 41)
 obtain ⟨q0, q1, q2, q3⟩ := P6.cells4 HM.out.hr
 show Calls Tryz.prog 12 #[.pointer (some ⟨b, 0, none⟩), .agg #[.int .i64 m.tx, .int .i64 m.root, .int .i64 m.free, .int .i64 m.pages]] W _
 clear hm h
 go_enter Tryz.func12, Tryz.ntmps12
 go_wp2_with (first
  | (go_at_call 43; (with_reducible refine (HV.out _).mono ?_); rintro e w2 ⟨rfl, hb⟩; have H2 := Lib.hid (HM.out.over hb); clear hb)
  | (go_at_call 36; (with_reducible refine (HF.out _ H2.out).mono ?_); rintro e w3 ⟨rfl, hb⟩; have H3 := Lib.hid (H2.out.over hb); clear hb))
 go_ret
 exact ⟨rfl, H3.out.below⟩
theorem Run.setMeta {W0 : World} {m0 : Nat} {m : Mt} (hok : m.ok) (hm : m0 ≤ 100000) (h : Run a W0 W b r d s D0 D ks K m0 0 (metaW m0 m) z K2) :
  Calls Tryz.prog 12 #[.pointer (some ⟨b, 0, none⟩), m.v] W fun e w2 => ∃ y D1 K1 m1, e = .returned (.int .i64 y) ∧ Run a W0 w2 b r d s D0 D1 ks K1 m1 y [] z K2 := by
 have hr := P6.Mt.ok_range hok
 have HV : Hid (∀ W', Calls Tryz.prog 43 #[.agg #[.int .i64 m.tx, .int .i64 m.root, .int .i64 m.free, .int .i64 m.pages]] W' fun e w' => e = .returned (.bool true) ∧ Below W'.heap.size W' w') := fun W' => by
  have q := rmvalid_any W' m
  rw [decide_eq_true hok] at q
  exact q
 obtain ⟨S, hS⟩ : ∃ S, S = m.sector := ⟨_, rfl⟩
 have HL : Hid (∀ W', Calls Tryz.prog 44 #[.agg #[.int .i64 m.tx, .int .i64 m.root, .int .i64 m.free, .int .i64 m.pages]] W' fun e w' => e = .returned (.string S) ∧ Below W'.heap.size W' w') := fun W' => by rw [hS]; exact rmlay_ok W' m hok
 have htx : m.tx % 2 = m.tx.tmod 2 := (Int.tmod_eq_emod_of_nonneg (by omega)).symm
 unfold metaW at h
 rw [← hS, htx] at h
 have HM := Lib.hid (MB.made W m)
 obtain ⟨Wb, hWb⟩ : ∃ x, x = (W.alloc (.cells #[.int .i64 m.tx, .int .i64 m.root, .int .i64 m.free, .int .i64 m.pages] 41)).alloc (.cells #[.int .i64 m.tx, .int .i64 m.root, .int .i64 m.free, .int .i64 m.pages] 93) := ⟨_, rfl⟩
 have hMB : MB W m Wb := by rw [hWb]; exact MB.made W m
 have hb0 : Below W.heap.size W Wb := hMB.below
 have h' : Run a Wb Wb b r d s D D ks K m0 0 (zerosW (zer 256) m0 2 ++ [(m.tx.tmod 2, S)]) z K2 := by
  have q := h.over hb0
  exact ⟨q.1, RStep.below q.1.at' (Below.refl _ _), q.2.2⟩
 have HE : Hid (∀ w' D1 K1 m1 y, Run a Wb w' b r d s D D1 ks K1 m1 y [] z K2 → Run a W0 w' b r d s D0 D1 ks K1 m1 y [] z K2) := fun w' D1 K1 m1 y k => ⟨k.1, (h.2.1.trans (RStep.below h.1.at' hb0)).trans k.2.1, k.2.2⟩
 have HK : Hid (∀ w' D1 K1 m1 y l, Run a Wb w' b r d s D D1 ks K1 m1 y l z K2 → w'.cell? ⟨b, 0, none⟩ = some (.pointer (some ⟨r, 0, none⟩)) ∧ w'.cell? ⟨b, 1, none⟩ = some (.string s) ∧ w'.cell? ⟨W.heap.size, 0, none⟩ = some (.int .i64 m.tx) ∧ w'.cell? ⟨W.heap.size + 1, 0, none⟩ = some (.int .i64 m.tx) ∧ w'.cell? ⟨W.heap.size + 1, 1, none⟩ = some (.int .i64 m.root) ∧ w'.cell? ⟨W.heap.size + 1, 2, none⟩ = some (.int .i64 m.free) ∧ w'.cell? ⟨W.heap.size + 1, 3, none⟩ = some (.int .i64 m.pages)) := fun w' D1 K1 m1 y l k => by
  have hn : ∀ j, W.heap.size ≤ j → ¬ D.own r j := fun j hj q => by have := (h.1.at'.own_lt q).2; omega
  have e1 := k.2.1.fr.keep hMB.hm (hn _ (Nat.le_refl _))
  have e2 := k.2.1.fr.keep hMB.hr (hn _ (Nat.le_succ _))
  obtain ⟨x0, x1, x2, x3⟩ := P6.cells4 e2
  exact ⟨k.1.cells.1, k.1.cells.2, (P6.cells4 e1).1, x0, x1, x2, x3⟩
 have HR := Lib.hid h'
 obtain ⟨p0, p1, p2, p3⟩ := P6.cells4 (P3.new_at W #[.int .i64 m.tx, .int .i64 m.root, .int .i64 m.free, .int .i64 m.pages] 41)
 obtain ⟨q0, q1, q2, q3⟩ := P6.cells4 HM.out.hr
 show Calls Tryz.prog 12 #[.pointer (some ⟨b, 0, none⟩), .agg #[.int .i64 m.tx, .int .i64 m.root, .int .i64 m.free, .int .i64 m.pages]] W _
 have HMax : Hid (max m0 2 ≤ 200000) := by show max m0 2 ≤ 200000; omega
 have HF : Hid (∀ w' , Run a Wb w' b r d s D D ks K m0 0 (zerosW (zer 256) m0 2 ++ [(m.tx.tmod 2, S)]) z K2 → Calls Tryz.prog 36 #[.pointer (some ⟨b, 0, none⟩), .int .i64 2] w' fun e w2 => ∃ y D1 K1, e = .returned (.int .i64 y) ∧ Run a Wb w2 b r d s D D1 ks K1 (max m0 2) y [(m.tx.tmod 2, S)] z K2) := fun w' k => k.fill 2 m0 (by omega) hm
 clear h h' hMB hb0 hok hS htx hr
 go_enter Tryz.func12, Tryz.ntmps12
 go_upto_region 4 with (go_at_call 43; (with_reducible refine (HV.out _).mono ?_); rintro e w2 ⟨rfl, hb⟩; have H2 := Lib.hid (HR.out.over (by rw [hWb]; exact hb)); clear hb)
 clear p0 p1 p2 p3 q0 q1 q2 q3 HV HM hWb
 go_upto_region 5 with (go_at_call 36; (with_reducible refine (HF.out _ H2.out).mono ?_); rintro e w3 ⟨y, D1, K1, rfl, h⟩; have H3 := Lib.hid h; clear h)
 clear HF H2 HR
 by_cases hy : y = 0
 ·subst hy
  have H3d := Lib.hid (H3.out.over (Below.refl _ _).drew)
  go_upto_region 7 with fail
  go_region_held3 (fun w' => w'.cell? ⟨b, 0, none⟩ = some (.pointer (some ⟨r, 0, none⟩)) ∧ w'.cell? ⟨b, 1, none⟩ = some (.string s) ∧ w'.cell? ⟨W.heap.size, 0, none⟩ = some (.int .i64 m.tx) ∧ w'.cell? ⟨W.heap.size + 1, 0, none⟩ = some (.int .i64 m.tx) ∧ w'.cell? ⟨W.heap.size + 1, 1, none⟩ = some (.int .i64 m.root) ∧ w'.cell? ⟨W.heap.size + 1, 2, none⟩ = some (.int .i64 m.free) ∧ w'.cell? ⟨W.heap.size + 1, 3, none⟩ = some (.int .i64 m.pages)) (first | exact HK.out _ _ _ _ _ _ H3.out | exact HK.out _ _ _ _ _ _ H3d.out | exact HK.out _ _ _ _ _ _ H4.out | exact HK.out _ _ _ _ _ _ H5.out) ((first
   | (go_at_call 44; (with_reducible refine (HL.out _).mono ?_); rintro e w4 ⟨rfl, hb⟩; have H4 := Lib.hid (show Run a Wb w4 b r d s D D1 ks K1 (max m0 2) 0 [(m.tx.tmod 2, S)] z K2 from (by first | exact H3d.out.over hb | exact H3.out.over hb)); clear hb)
   | (go_at_call 37; (with_reducible refine (H4.out.write).mono ?_); rintro e w5 ⟨y2, D2, K3, rfl, h⟩; have H5 := Lib.hid h; clear h)))
  all_goals
   go_wp2
   go_ret
   exact ⟨y2, D2, K3, _, rfl, HE.out _ _ _ _ _ H5.out⟩
 ·have k2 : (y != 0) = true := by simp [hy]
  go_wp2
  go_ret
  exact ⟨y, D1, K1, 0, rfl, HE.out _ _ _ _ _ (H3.out.any hy)⟩
end
end Go.Proofs.YtbkngnjkaledlaaGreat.P8
namespace Go.Proofs.YtbkngnjkaledlaaGreat.P8
open Go Go.RowKit Go.Lib Go.Maps Go.ChangeMaps Go.MapKept P3 P4
theorem stsync_of {w : World} {b d : Nat} {s : ByteArray} {n : Int} {Q : Int → World → Prop} (h : StAt w b d s n)
  (H : ∀ W, Below w.heap.size w W → Calls Tryz.prog 50 #[.pointer (some ⟨d, 0, none⟩), .string s] W fun e w' => ∃ z : Int, e = .returned (.int .i64 z) ∧ StAt w' b d s n ∧ Q z w') :
  Calls Tryz.prog 14 #[.pointer (some ⟨b, 0, none⟩)] w fun e w' => ∃ z : Int, e = .returned (.int .i64 (if z = 8 then 0 else z)) ∧ StAt w' b d s n ∧ Q z w' := by
 have H1 := Lib.hid (H w (Below.refl _ _))
 have H2 := Lib.hid (H w.drew (Below.refl _ _).drew)
 have HA := Lib.hid h
 have HD := Lib.hid (h.below (Below.refl _ _).drew)
 have HX : Hid (∀ W, StAt W b d s n → W.cell? ⟨b, 0, none⟩ = some (.pointer (some ⟨d, 0, none⟩)) ∧ W.cell? ⟨b, 1, none⟩ = some (.string s)) := fun _ k => ⟨k.c0, k.c1⟩
 clear h H
 go_enter Tryz.func14, Tryz.ntmps14
 go_upto_region 3 with fail
 go_cut [3] from 6 to 14 (fun v W' => ∃ z : Int, v = .int .i64 z ∧ StAt W' b d s n ∧ Q z W')
 case first =>
  go_region_held3 (fun W' => W'.cell? ⟨b, 0, none⟩ = some (.pointer (some ⟨d, 0, none⟩)) ∧ W'.cell? ⟨b, 1, none⟩ = some (.string s)) (first | exact HX.out _ HA.out | exact HX.out _ HD.out | exact HX.out _ H5.out.1)
   ((go_at_call 50; (first | (with_reducible refine (H2.out).mono ?_) | (with_reducible refine (H1.out).mono ?_)); rintro e w5 ⟨z, rfl, hq⟩; have H5 := Lib.hid hq; clear hq))
  all_goals
   go_wp2
   go_meet
   exact ⟨z, rfl, H5.out⟩
 case rest =>
  obtain ⟨z, rfl, hq⟩ := hcut
  have HQ := Lib.hid hq
  clear hq HA HD HX H1 H2
  by_cases hz : z = 8
  ·subst hz
   go_wp2
   go_ret
   exact ⟨8, rfl, HQ.out⟩
  ·have k2 : (z == 8) = false := beq_eq_false_iff_ne.2 hz
   have HZ : Hid ((if z = 8 then 0 else z) = z) := if_neg hz
   go_wp2
   go_ret
   exact ⟨z, by rw [HZ.out]; rfl, HQ.out⟩
end Go.Proofs.YtbkngnjkaledlaaGreat.P8
namespace Go.Proofs.YtbkngnjkaledlaaGreat.P8
open Go Go.RowKit Go.Lib Go.Maps Go.ChangeMaps Go.MapKept P3 P4
open P5 (Pg zer)
open P6 (Mt)
structure SS (a W : World) (d : Nat) (K : Dk) (r : Nat) (D : RM) (ks : List Int) (b : Nat) (s : ByteArray) (n : Int) (X : List (Nat × Obj)) : Prop where
 pr : Pr a W d K r D ks
 st : StAt W b d s n
 kb : ¬ K.foot d b
 db : ¬ D.foot r b
 lo : a.heap.size ≤ b
 x : ∀ p ∈ X, W.heap[p.1]? = some p.2 ∧ ¬ K.foot d p.1 ∧ ¬ D.foot r p.1 ∧ p.1 ≠ b
section
variable {a w w' w1 w2 W : World} {d r b fb : Nat} {K K1 K2 : Dk} {D D1 : RM} {ks : List Int} {s : ByteArray} {n : Int} {X : List (Nat × Obj)} {z : Int}
theorem SS.over (h : SS a w d K r D ks b s n X) (hb : Below w.heap.size w w') : SS a w' d K r D ks b s n X :=
 ⟨h.pr.over hb, h.st.below hb, h.kb, h.db, h.lo, fun p hp => ⟨P3.old_below (h.x p hp).1 hb, (h.x p hp).2⟩⟩
theorem SS.sd (h : SS a w d K r D ks b s n X) : SD w b d s n K := ⟨h.st, h.pr.at1, h.kb⟩
theorem SS.file (h : SS a w d K r D ks b s n X) (hf : (fb, Obj.cells #[.pointer (some ⟨r, 0, none⟩), .string s] 38 (0, 0)) ∈ X) : FB a w fb r s D ks :=
 ⟨h.pr.at2, (h.x _ hf).1, fun q => (h.x _ hf).2.2.1 (.inl q), h.pr.kint, h.pr.below⟩
theorem SS.add (h : SS a w d K r D ks b s n X) (cs : Array Value) (t : TypeId) : SS a (w.alloc (.cells cs t)) d K r D ks b s n ((w.heap.size, Obj.cells cs t (0, 0)) :: X) := by
 have q := h.over (P3.below_new w (.cells cs t))
 refine ⟨q.pr, q.st, q.kb, q.db, q.lo, fun p hp => ?_⟩
 rcases List.mem_cons.1 hp with rfl | hp
 ·refine ⟨P3.new_at w _ _, fun k => ?_, fun k => ?_, fun k => ?_⟩
  ·exact Nat.lt_irrefl _ (h.pr.at1.foot_lt _ k)
  ·exact Nat.lt_irrefl _ (h.pr.at2.foot_lt k)
  ·have := h.st.lt
   have k' : w.heap.size = b := k
   omega
 ·exact q.x p hp
theorem SS.sub (h : SS a w d K r D ks b s n X) {Y : List (Nat × Obj)} (hY : ∀ p ∈ Y, p ∈ X) : SS a w d K r D ks b s n Y := ⟨h.pr, h.st, h.kb, h.db, h.lo, fun p hp => h.x p (hY p hp)⟩
structure SM (a w : World) (d : Nat) (K : Dk) (r : Nat) (D : RM) (ks : List Int) (b : Nat) (s : ByteArray) (n : Int) (X : List (Nat × Obj)) (w1 : World) (K1 : Dk) : Prop where
 ss : SS a w d K r D ks b s n X
 st : Step w d K w1 K1
theorem SM.over {w1' : World} (h : SM a w d K r D ks b s n X w1 K1) (hb : Below w1.heap.size w1 w1') : SM a w d K r D ks b s n X w1' K1 := ⟨h.ss, h.st.trans (Step.below h.st.at' hb)⟩
theorem SM.x (h : SM a w d K r D ks b s n X w1 K1) : ∀ p ∈ X, w1.heap[p.1]? = some p.2 := fun p hp => h.st.fr.keep (h.ss.x p hp).1 (h.ss.x p hp).2.1
theorem SM.file (h : SM a w d K r D ks b s n X w1 K1) (hf : (fb, Obj.cells #[.pointer (some ⟨r, 0, none⟩), .string s] 38 (0, 0)) ∈ X) : FB a w1 fb r s D ks :=
 ⟨h.ss.pr.at2' h.st, h.x _ hf, fun q => (h.ss.x _ hf).2.2.1 (.inl q), h.ss.pr.kint, Fr.new h.ss.pr.below h.st.fr h.ss.pr.f1⟩
theorem SM.step {ks' : List Int} (h : SM a w d K r D ks b s n X w1 K1) (h2 : RStep a.heap.size w1 r D w2 D1) (he : Eqv K1 D1 ks') (hk : IntsIn a D1.kv ks') : SS a w2 d K1 r D1 ks' b s n X := by
 have h1 := h.st
 have hp := h.ss.pr
 have hlw : ∀ k, D.foot r k → k < w.heap.size := fun k hk => hp.at2.foot_lt hk
 have hap1 : ∀ k, K1.foot d k → ¬ D.foot r k := fun k hk q => by
  rcases h1.foot k hk with e | e
  ·exact hp.apart k e q
  ·have := hlw k q; omega
 have hsz : w.heap.size ≤ w1.heap.size := h1.fr.size
 have hK1 : ∀ k, K1.foot d k → k < w1.heap.size := h1.at'.foot_lt
 have hkeep : ∀ k, k < w.heap.size → ¬ K.foot d k → ¬ D.foot r k → ¬ K1.foot d k ∧ ¬ D1.foot r k := fun k hlt q1 q2 => by
  constructor
  ·intro q
   rcases h1.foot k q with e | e
   ·exact q1 e
   ·omega
  ·intro q
   rcases h2.foot k q with e | e
   ·exact q2 e
   ·omega
 have hstay : ∀ (k : Nat) (o : Obj), w.heap[k]? = some o → ¬ K.foot d k → ¬ D.foot r k → w2.heap[k]? = some o := fun k o ho q1 q2 => h2.fr.keep (h1.fr.keep ho q1) (fun q => q2 (.inl q))
 refine ⟨⟨h1.at'.fr h2.fr fun k hk q => hap1 k hk (.inl q), h2.at', he, hk, fun k hk => ?_, fun k hk q => ?_, ?_⟩, hstay b _ h.ss.st h.ss.kb h.ss.db, (hkeep b h.ss.st.lt h.ss.kb h.ss.db).1, (hkeep b h.ss.st.lt h.ss.kb h.ss.db).2, h.ss.lo, fun p hp' => ?_⟩
 ·rcases h1.foot k hk with e | e
  ·exact hp.f1 k e
  ·exact Nat.le_trans hp.below.size e
 ·rcases h2.foot k q with e | e
  ·exact hap1 k hk e
  ·have := hK1 k hk; omega
 ·exact Fr.new (Fr.new hp.below h1.fr hp.f1) h2.fr hp.own_lo
 ·obtain ⟨q1, q2, q3, q4⟩ := h.ss.x p hp'
  have q5 := hkeep p.1 (P3.lt_of_block q1) q2 q3
  exact ⟨hstay _ _ q1 q2 q3, q5.1, q5.2, q4⟩
theorem SS.pstep {ks' : List Int} (h : SS a w d K r D ks b s n X) (hs : PStep a w d K r D w2 K1 D1 ks') : SS a w2 d K1 r D1 ks' b s n X := by
 have hkeep : ∀ k, k < w.heap.size → ¬ K.foot d k → ¬ D.foot r k → ¬ K1.foot d k ∧ ¬ D1.foot r k := fun k hlt q1 q2 => by
  constructor
  ·intro q
   rcases hs.kf k q with e | e
   ·exact q1 e
   ·omega
  ·intro q
   rcases hs.df k q with e | e
   ·exact q2 e
   ·omega
 have hstay : ∀ (k : Nat) (o : Obj), w.heap[k]? = some o → ¬ K.foot d k → ¬ D.foot r k → w2.heap[k]? = some o := fun k o ho q1 q2 => hs.fr.keep ho (fun q => q.elim q1 (fun q => q2 (.inl q)))
 refine ⟨hs.pr, hstay b _ h.st h.kb h.db, (hkeep b h.st.lt h.kb h.db).1, (hkeep b h.st.lt h.kb h.db).2, h.lo, fun p hp' => ?_⟩
 obtain ⟨q1, q2, q3, q4⟩ := h.x p hp'
 have q5 := hkeep p.1 (P3.lt_of_block q1) q2 q3
 exact ⟨hstay _ _ q1 q2 q3, q5.1, q5.2, q4⟩
theorem SS.read {n' : Int} (h : SS a w d K r D ks b s n X) (hs : StAt w2 b d s n') (ho : Only b w w2) : SS a w2 d K r D ks b s n' X := by
 have hf : Fr (· = b) w w2 := Fr.only ho rfl
 refine ⟨⟨h.pr.at1.fr hf fun k hk q => ?_, h.pr.at2.frS hf fun k hk q => ?_, h.pr.eqv, h.pr.kint, h.pr.f1, h.pr.apart, Only.new h.pr.below ho h.lo⟩, hs, h.kb, h.db, h.lo, fun p hp => ⟨ho.keep (h.x p hp).1 (h.x p hp).2.2.2, (h.x p hp).2⟩⟩
 ·exact h.kb (q ▸ hk)
 ·exact h.db (q ▸ hk)
theorem SS.getKR (h : SS a w d K r D ks b s n X) (id : Int) : getK K s id = getR D s id := by
 unfold getK
 rw [show P4.readE K s id = (P4.readR D s id).2 from congrArg Prod.snd (h.pr.eqv.read h.pr.at1 s id), show readT K s id = (P4.readR D s id).1 from congrArg Prod.fst (h.pr.eqv.read h.pr.at1 s id)]
 rfl
theorem SS.metaKR (h : SS a w d K r D ks b s n X) : metaK K s = metaR D s := by
 unfold metaK metaR
 rw [show readT K s 0 = (P4.readR D s 0).1 from congrArg Prod.fst (h.pr.eqv.read h.pr.at1 s 0), show readT K s 1 = (P4.readR D s 1).1 from congrArg Prod.fst (h.pr.eqv.read h.pr.at1 s 1), h.pr.eqv.on, Bool.not_not]
theorem SS.get (h : SS a w d K r D ks b s n X) (hs : s.size ≤ maxLen) (id : Int) : Calls Tryz.prog 17 #[.pointer (some ⟨b, 0, none⟩), .int .i64 id] w fun e w2 => e = .returned (.tuple #[(getR D s id).1.v, .int .i64 (getR D s id).2]) ∧ SS a w2 d K r D ks b s (if (getR D s id).2 = 0 then wrap64 (n + 1) else n) X := by
 have H := h.sd.get hs id
 rw [h.getKR] at H
 refine H.mono ?_
 rintro e w2 ⟨rfl, q1, q2⟩
 exact ⟨rfl, h.read q1.1 q2⟩
theorem SS.meta_ (h : SS a w d K r D ks b s n X) (hs : s.size ≤ maxLen) : Calls Tryz.prog 19 #[.pointer (some ⟨b, 0, none⟩)] w fun e w2 => e = .returned (.tuple #[(metaR D s).1.v, .int .i64 (metaR D s).2]) ∧ Below w.heap.size w w2 := by
 have H := h.sd.meta_ hs
 rw [h.metaKR] at H
 exact H
theorem SS.size (h : SS a w d K r D ks b s n X) (hs : s.size ≤ maxLen) : Calls Tryz.prog 23 #[.pointer (some ⟨b, 0, none⟩)] w fun e w2 => e = .returned (.int .i64 (sizeR D s)) ∧ Below w.heap.size w w2 := by
 have H := h.sd.size hs
 rw [h.pr.eqv.sizeF h.pr.at1 s] at H
 exact H
end
end Go.Proofs.YtbkngnjkaledlaaGreat.P8
