/-
  Texts of the proof of SaidPlay8b.
-/
import Derived.Test.YtbkngnjkaledlaaGreatMp32
set_option maxHeartbeats 8000000
set_option maxRecDepth 100000
namespace Go.Proofs.YtbkngnjkaledlaaGreat.P8
open Go Go.RowKit Go.Lib Go.Maps Go.ChangeMaps Go.MapKept P3 P4
open P5 (Pg zer rValid_any)
section
variable {a W W' : World} {b r : Nat} {s : ByteArray} {D : RM} {ks : List Int}
theorem off_size (hoff : D.off = true) : sizeR D s = 0 ∧ errR D s = 14 := by
 have e : errR D s = 14 := by unfold errR; rw [if_pos hoff]
 refine ⟨?_, e⟩
 unfold sizeR
 rw [e, if_neg (by decide)]
theorem FB.fill_off (h : FB a W b r s D ks) (hoff : D.off = true) (n : Int) : Calls Tryz.prog 36 #[.pointer (some ⟨b, 0, none⟩), .int .i64 n] W fun e w2 => e = .returned (.int .i64 14) ∧ Below W.heap.size W w2 := by
 have HA := Lib.hid h
 have HD := Lib.hid (h.over (Below.refl _ _).drew)
 have HX : Hid (∀ W', FB a W' b r s D ks → W'.cell? ⟨b, 0, none⟩ = some (.pointer (some ⟨r, 0, none⟩)) ∧ W'.cell? ⟨b, 1, none⟩ = some (.string s)) := fun _ k => k.cells
 have HSz : Hid (∀ W', FB a W' b r s D ks → Calls Tryz.prog 21 #[.pointer (some ⟨r, 0, none⟩), .string s] W' fun e w' => e = .returned (.tuple #[.int .i64 (0 : Nat), .int .i64 14]) ∧ Below W'.heap.size W' w') := fun W' k => by
  have q := k.rat.size s
  rw [(off_size (s := s) hoff).1, (off_size (s := s) hoff).2] at q
  exact q
 have HB1 := Lib.hid (Below.refl W.heap.size W)
 have HB2 := Lib.hid (Below.refl W.heap.size W).drew
 clear h hoff
 go_enter Tryz.func36, Tryz.ntmps36
 go_upto_region 1 with fail
 go_cut [5, 6] from 7 to 18 (fun v e W' => v = .int .i64 0 ∧ e = .int .i64 14 ∧ Hid (Below W.heap.size W W'))
 case first =>
  go_region_held3 (fun W' => W'.cell? ⟨b, 0, none⟩ = some (.pointer (some ⟨r, 0, none⟩)) ∧ W'.cell? ⟨b, 1, none⟩ = some (.string s)) (first | exact HX.out _ HA.out | exact HX.out _ HD.out | exact HX.out _ H2.out)
   ((go_at_call 21; (with_reducible refine (HSz.out _ (by first | exact HD.out | exact HA.out)).mono ?_); rintro e w2 ⟨rfl, hb⟩; have H2 := Lib.hid (show FB a w2 b r s D ks from (by first | exact HD.out.over hb | exact HA.out.over hb)); have HB := Lib.hid (show Below W.heap.size W w2 from (by first | exact thenBelow HB2.out hb | exact thenBelow HB1.out hb)); clear hb))
  all_goals
   go_wp2
   go_meet
   exact ⟨rfl, rfl, HB⟩
 case rest =>
  obtain ⟨rfl, rfl, HB⟩ := hcut
  clear HA HD HX HSz HB1 HB2
  go_wp2
  go_loopw [5, 6] (fun vk ve wr => vk = .int .i64 0 ∧ ve = .int .i64 14 ∧ Hid (Below W.heap.size W wr)) (fun _ _ _ => 0)
  case atStart => exact ⟨rfl, rfl, HB⟩
  case round =>
   clear HB
   obtain ⟨rfl, rfl, HB⟩ := hrel
   go_wp2
   go_ret
   exact ⟨rfl, HB.out⟩
theorem put_first {v : Value} {l : List Pg} (hv : PagesIn a v l) (hok : ∀ p ∈ l, okPut p) (h : FB a W b r s D ks) (hend : l = [] ∨ D.off = true) :
  Calls Tryz.prog 10 #[.pointer (some ⟨b, 0, none⟩), v] W fun e w2 => e = .returned (.int .i64 (if l = [] then 0 else 14)) ∧ Below W.heap.size W w2 := by
 obtain ⟨y, hy⟩ : ∃ y : Int, y = if l = [] then 0 else 14 := ⟨_, rfl⟩
 rw [← hy]
 have HY0 : Hid (l = [] → y = 0) := fun q => by rw [hy, if_pos q]
 have HY1 : Hid (l ≠ [] → y = 14) := fun q => by rw [hy, if_neg q]
 clear hy
 obtain ⟨av, c, rfl, hl, hc⟩ := hv
 have H := Lib.hid (Below.refl W.heap.size W)
 have HB0 : Hid (∀ W', Below W.heap.size W W' → Below a.heap.size a W') := fun W' hb => thenBelow h.below hb
 have HFl : Hid (l ≠ [] → ∀ W' n, Below W.heap.size W W' → Calls Tryz.prog 36 #[.pointer (some ⟨b, 0, none⟩), .int .i64 n] W' fun e w2 => e = .returned (.int .i64 14) ∧ Below W'.heap.size W' w2) := fun hne W' n hb => (h.over hb).fill_off (hend.resolve_left hne) n
 clear h hend
 go_enter Tryz.func10, Tryz.ntmps10
 go_wp2
 go_loopw [5] (fun vi wr => ∃ i : Nat, i ≤ l.length ∧ vi = .int .i64 i ∧ Hid (Below W.heap.size W wr)) (fun vi _ => l.length - (RowKit.intOf vi).toNat)
 case atStart => exact ⟨0, Nat.zero_le _, rfl, H⟩
 case round =>
  clear H
  obtain ⟨i, hi, rfl, H⟩ := hrel
  by_cases hlt : i < l.length
  ·obtain ⟨p, hp⟩ : ∃ p, l[i]? = some p := ⟨_, List.getElem?_eq_getElem hlt⟩
   obtain ⟨o1, o2, o3⟩ := hok p (List.mem_of_getElem? hp)
   obtain ⟨B, off, rfl, hbl, hcells⟩ := hc (by omega)
   have HX : Hid (∀ W', Below a.heap.size a W' → ∀ (j : Nat) (u : Value), p.cells.toList[j]? = some u → W'.cell? ⟨B, off + i * 4 + j, none⟩ = some u) := fun W' hb j u hj => by rw [hb.cell (p := ⟨B, off + i * 4 + j, none⟩) hbl]; exact hcells i p hp j u hj
   have HV : Hid (∀ W', Calls Tryz.prog 28 #[.agg #[.int .i64 p.k, .int .i64 p.id, .int .i64 p.tx, .string p.body]] W' fun e w' => e = .returned (.bool true) ∧ Below W'.heap.size W' w') := fun W' => by
    have q := rValid_any W' p
    rw [decide_eq_true o1] at q
    exact q
   have q0 : wr.cell? ⟨B, off + i * 4, none⟩ = some (.int .i64 p.k) := HX.out _ (HB0.out _ H.out) 0 _ rfl
   have q1 : wr.cell? ⟨B, off + i * 4 + 1, none⟩ = some (.int .i64 p.id) := HX.out _ (HB0.out _ H.out) 1 _ rfl
   have q2 : wr.cell? ⟨B, off + i * 4 + 2, none⟩ = some (.int .i64 p.tx) := HX.out _ (HB0.out _ H.out) 2 _ rfl
   have q3 : wr.cell? ⟨B, off + i * 4 + 3, none⟩ = some (.string p.body) := HX.out _ (HB0.out _ H.out) 3 _ rfl
   have k1 : (p.k == 1) = false := beq_eq_false_iff_ne.2 o2
   have k2 : decide (p.id < 2) = false := decide_eq_false (by omega)
   clear hc hcells o1 o2 o3 hp
   go_wp2_with (go_at_call 28; (with_reducible refine (HV.out _).mono ?_); rintro e w3 ⟨rfl, hb3⟩; have H3 := Lib.hid (thenBelow H.out hb3); have s0 : w3.cell? ⟨B, off + i * 4, none⟩ = some (.int .i64 p.k) := HX.out _ (HB0.out _ H3.out) 0 _ rfl; have s1 : w3.cell? ⟨B, off + i * 4 + 1, none⟩ = some (.int .i64 p.id) := HX.out _ (HB0.out _ H3.out) 1 _ rfl; clear hb3)
   go_roundw
   case rel => exact ⟨i + 1, by omega, by go_num, H3⟩
   case measure => simp [RowKit.intOf]; omega
  ·go_wp2
   clear hlt hi
   go_loopw [6] (fun vi wr => vi = .int .i64 0 ∧ Hid (Below W.heap.size W wr)) (fun _ _ => 0)
   case atStart => exact ⟨rfl, H⟩
   case round =>
    clear H
    obtain ⟨rfl, H⟩ := hrel
    by_cases hne : l = []
    ·have hy := HY0.out hne
     subst hne hy
     go_wp2
     go_ret
     exact ⟨rfl, H.out⟩
    ·have hpos : 0 < l.length := List.length_pos_iff.2 hne
     obtain ⟨p, hp⟩ : ∃ p, l[0]? = some p := ⟨_, List.getElem?_eq_getElem hpos⟩
     obtain ⟨B, off, rfl, hbl, hcells⟩ := hc hpos
     have q1 : wr.cell? ⟨B, off + 1, none⟩ = some (.int .i64 p.id) := by
      have q := hcells 0 p hp 1 _ rfl
      rw [Nat.zero_mul, Nat.add_zero] at q
      rw [(HB0.out _ H.out).cell (p := ⟨B, off + 1, none⟩) hbl]
      exact q
     have HK := Lib.hid (HFl.out hne wr p.id H.out)
     have t1 : (0 : Int) < (l.length : Int) := by omega
     have hy := HY1.out hne
     subst hy
     clear hc hcells hp hne HFl
     go_wp2_with (go_at_call 36; (with_reducible refine (HK.out).mono ?_); rintro e w4 ⟨rfl, hb⟩; have H4 := Lib.hid (thenBelow H.out hb); clear hb)
     go_ret
     exact ⟨rfl, H4.out⟩
end
end Go.Proofs.YtbkngnjkaledlaaGreat.P8
namespace Go.Proofs.YtbkngnjkaledlaaGreat.P8
open Go Go.RowKit Go.Lib Go.Maps Go.ChangeMaps Go.MapKept P3 P4
open P5 (Pg zer lay_any laidB laidE)
section
variable {w w' w1 : World} {b d m : Nat} {s data : ByteArray} {i z : Int} {n : Int} {K K1 K2 : Dk} {l k : List (Int × ByteArray)}
theorem Did.app {W : World} {z1 : Int} (h : Did w b d s n K l 0 w1 K1) (h2 : Did w1 b d s n K1 k z1 W K2) : Did w b d s n K (l ++ k) z1 W K2 :=
 ⟨h.tr.app (.inl ⟨rfl, h2.tr⟩), h2.sd, h.st.trans h2.st⟩
theorem Did.stop (h : Did w b d s n K l z w1 K1) (hz : z ≠ 0) (k : List (Int × ByteArray)) : Did w b d s n K (l ++ k) z w1 K1 :=
 ⟨h.tr.app (.inr ⟨hz, rfl, rfl⟩), h.sd, h.st⟩
theorem Did.none (h : SD w b d s n K) (hb : Below w.heap.size w w1) : Did w b d s n K [] 0 w1 K := ⟨.nil K, h.below hb, Step.below h.2.1 hb⟩
theorem SD.write (h : SD w b d s n K) (hm : SzF K s m) (hs : s.size ≤ maxLen) (hl : K.left ≤ 9223372036854775807) (ht : K.turn < 8999) (i : Int) (data : ByteArray) (hd : data.size ≤ maxLen) :
  Calls Tryz.prog 41 #[.pointer (some ⟨d, 0, none⟩), .string s, .int .i64 i, .string data] w fun e w2 => ∃ z K2, e = .returned (.int .i64 z) ∧ Did w b d s n K [(i, data)] z w2 K2 ∧ (z = 0 → SzF K2 s (max m (i.toNat + 1))) := by
 refine (h.2.1.writeK hl (by omega) s i data hs).mono ?_
 rintro e w2 ⟨z, K2, rfl, hst, hwk⟩
 refine ⟨z, K2, rfl, ⟨?_, h.step hst, hst⟩, fun hz => ?_⟩
 ·by_cases hz : z = 0
  ·subst hz; exact .ok h.2.1 ht hd hwk (.nil _)
  ·exact .bad h.2.1 ht hd hwk hz
 ·subst hz
  exact ((hm.k hwk).write hwk).1.f
def pageW (m : Nat) (p : Pg) : List (Int × ByteArray) := zerosW (zer 256) m p.id.toNat ++ [(p.id, p.sector)]
theorem pageW_len (m : Nat) (p : Pg) : (pageW m p).length = p.id.toNat - m + 1 := by simp [pageW, zerosW_len]
theorem SD.put1 (h : SD w b d s n K) (p : Pg) (ho : okPut p) (hm : SzF K s m) (hm2 : m ≤ 100000) (hs : s.size ≤ maxLen) (hl : K.left ≤ 9223372036854775807) (ht : K.turn + (p.id.toNat - m + 1) < 8999) :
  Calls Tryz.prog 35 #[.pointer (some ⟨b, 0, none⟩), p.v] w fun e w2 => ∃ z K2, e = .returned (.int .i64 z) ∧ Did w b d s n K (pageW m p) z w2 K2 ∧ (z = 0 → SzF K2 s (max (max m p.id.toNat) (p.id.toNat + 1))) := by
 obtain ⟨o1, o2, o3⟩ := ho
 obtain ⟨N, hN⟩ : ∃ N : Nat, p.id = N := ⟨p.id.toNat, by omega⟩
 have hN4 : N < 4000 := by have := o1.2.2.2.1; omega
 have hz : p.sector.size = 256 := p.sector_size o1
 obtain ⟨S, hS⟩ : ∃ S, S = p.sector := ⟨_, rfl⟩
 have HL : Hid (∀ W, Calls Tryz.prog 85 #[.agg #[.int .i64 p.k, .int .i64 N, .int .i64 p.tx, .string p.body]] W fun e w' => e = .returned (.tuple #[.string S, .int .i64 0]) ∧ Below W.heap.size W w') := fun W => by
  have q := lay_any W p
  rw [show laidB p = p.sector from if_pos o1, show laidE p = 0 from if_pos o1] at q
  rw [hS, ← hN]
  exact q
 have hsz : S.size ≤ maxLen := by rw [hS, hz]; decide
 unfold pageW
 rw [← hS, hN, Int.toNat_natCast]
 rw [hN, Int.toNat_natCast] at ht
 have HF : Hid (∀ W, SD W b d s n K → Calls Tryz.prog 40 #[.pointer (some ⟨b, 0, none⟩), .int .i64 N] W fun e w2 => ∃ z K2, e = .returned (.int .i64 z) ∧ Did W b d s n K (zerosW (zer 256) m N) z w2 K2 ∧ (z = 0 → SzF K2 s (max m N) ∧ K2.turn ≤ K.turn + (N - m))) := fun W k => k.fill N (by omega) hm hm2 hs hl (by omega)
 have HWr : Hid (∀ W K1, Did w b d s n K (zerosW (zer 256) m N) 0 W K1 → SzF K1 s (max m N) → K1.turn ≤ K.turn + (N - m) → ¬ K1.foot d w.heap.size → W.heap[w.heap.size]? = some (.cells #[.int .i64 p.k, .int .i64 N, .int .i64 p.tx, .string p.body] 47 (0, 0)) → Calls Tryz.prog 41 #[.pointer (some ⟨d, 0, none⟩), .string s, .int .i64 N, .string S] W fun e w2 => ∃ z K2, e = .returned (.int .i64 z) ∧ SD w2 b d s n K2 ∧ Did w b d s n K (zerosW (zer 256) m N ++ [((N : Int), S)]) z w2 K2 ∧ (z = 0 → SzF K2 s (max (max m N) (N + 1))) ∧ w2.heap[w.heap.size]? = some (.cells #[.int .i64 p.k, .int .i64 N, .int .i64 p.tx, .string p.body] 47 (0, 0))) := fun W K1 k1 k2 k3 k4 k5 => by
  have q := k1.tr.left
  refine (k1.sd.write k2 hs (by omega) (by omega) N S hsz).mono ?_
  rintro e w2 ⟨z, K2, rfl, h1, h2⟩
  exact ⟨z, K2, rfl, h1.sd, k1.app h1, h2, h1.st.fr.keep k5 k4⟩
 have HB : Hid (∀ W, Below (w.alloc (.cells #[.int .i64 p.k, .int .i64 N, .int .i64 p.tx, .string p.body] 47)).heap.size (w.alloc (.cells #[.int .i64 p.k, .int .i64 N, .int .i64 p.tx, .string p.body] 47)) W → W.heap[w.heap.size]? = some (.cells #[.int .i64 p.k, .int .i64 N, .int .i64 p.tx, .string p.body] 47 (0, 0)) ∧ SD W b d s n K ∧ Below w.heap.size w W) := fun W hb =>
  ⟨P3.old_below (P3.new_at w _ _) hb, h.below (thenBelow (P3.below_new w _) hb), thenBelow (P3.below_new w _) hb⟩
 have HG : Hid (∀ W W2 z K2, Below w.heap.size w W → Did W b d s n K (zerosW (zer 256) m N) z W2 K2 → Did w b d s n K (zerosW (zer 256) m N) z W2 K2) := fun W W2 z K2 hb k => ⟨k.tr, k.sd, (Step.below h.2.1 hb).trans k.st⟩
 have HK : Hid (∀ W W2 z K2, Below w.heap.size w W → W.heap[w.heap.size]? = some (.cells #[.int .i64 p.k, .int .i64 N, .int .i64 p.tx, .string p.body] 47 (0, 0)) → Did W b d s n K (zerosW (zer 256) m N) z W2 K2 → W2.heap[w.heap.size]? = some (.cells #[.int .i64 p.k, .int .i64 N, .int .i64 p.tx, .string p.body] 47 (0, 0)) ∧ ¬ K2.foot d w.heap.size) := fun W W2 z K2 hb hw k =>
  ⟨k.st.fr.keep hw (fun q => Nat.lt_irrefl _ (h.2.1.foot_lt _ q)), fun q => (k.st.foot _ q).elim (fun q => Nat.lt_irrefl _ (h.2.1.foot_lt _ q)) (fun q => by have := P3.lt_of_block hw; omega)⟩
 have HX : Hid (∀ W K', SD W b d s n K' → W.cell? ⟨b, 0, none⟩ = some (.pointer (some ⟨d, 0, none⟩)) ∧ W.cell? ⟨b, 1, none⟩ = some (.string s)) := fun _ _ k => k.cells
 have e : p.v = .agg #[.int .i64 p.k, .int .i64 N, .int .i64 p.tx, .string p.body] := by unfold Pg.v; rw [hN]
 rw [e]
 have hb0 := HB.out _ (Below.refl _ _)
 have p0 : (w.alloc (.cells #[.int .i64 p.k, .int .i64 N, .int .i64 p.tx, .string p.body] 47)).cell? ⟨w.heap.size, 0, none⟩ = some (.int .i64 p.k) := by rw [P3.cell_at hb0.1]; rfl
 have p1 : (w.alloc (.cells #[.int .i64 p.k, .int .i64 N, .int .i64 p.tx, .string p.body] 47)).cell? ⟨w.heap.size, 1, none⟩ = some (.int .i64 N) := by rw [P3.cell_at hb0.1]; rfl
 have p2 : (w.alloc (.cells #[.int .i64 p.k, .int .i64 N, .int .i64 p.tx, .string p.body] 47)).cell? ⟨w.heap.size, 2, none⟩ = some (.int .i64 p.tx) := by rw [P3.cell_at hb0.1]; rfl
 have p3 : (w.alloc (.cells #[.int .i64 p.k, .int .i64 N, .int .i64 p.tx, .string p.body] 47)).cell? ⟨w.heap.size, 3, none⟩ = some (.string p.body) := by rw [P3.cell_at hb0.1]; rfl
 clear h hm hl ht o1 o2 o3 hN hz hS e hb0
 go_enter Tryz.func35, Tryz.ntmps35
 go_upto_region 4 with (go_at_call 85; (with_reducible refine (HL.out _).mono ?_); rintro e w2 ⟨rfl, hb⟩; obtain ⟨g1, g2, g3⟩ := HB.out _ hb; have G1 := Lib.hid g1; have G2 := Lib.hid g2; have G3 := Lib.hid g3; have q1 : w2.cell? ⟨w.heap.size, 1, none⟩ = some (.int .i64 N) := (by rw [P3.cell_at g1]; rfl); clear hb g1 g2 g3)
 clear p0 p1 p2 p3 HL HB
 go_upto_region 5 with (go_at_call 40; (with_reducible refine (HF.out _ G2.out).mono ?_); rintro e w4 ⟨z, K1, rfl, hd, hz⟩; have H4 := Lib.hid (HG.out _ _ _ _ G3.out hd); have Z4 := Lib.hid hz; have G4 := Lib.hid (HK.out _ _ _ _ G3.out G1.out hd); clear hd hz)
 clear HF HG HK G1 G2 G3 q1
 by_cases hz : z = 0
 ·subst hz
  obtain ⟨z1, z2⟩ := Z4.out rfl
  have Z1 := Lib.hid z1
  have Z2 := Lib.hid z2
  have Hd := Lib.hid (H4.out.over (Below.refl _ _).drew)
  have HW := Lib.hid (HWr.out _ _ H4.out z1 z2 G4.out.2 G4.out.1)
  have HWd := Lib.hid (HWr.out _ _ Hd.out z1 z2 G4.out.2 (P3.old_below G4.out.1 (Below.refl _ _).drew))
  clear z1 z2 Z4 HWr
  go_upto_region 7 with fail
  go_region_held3 (fun W' => W'.cell? ⟨b, 0, none⟩ = some (.pointer (some ⟨d, 0, none⟩)) ∧ W'.cell? ⟨b, 1, none⟩ = some (.string s) ∧ W'.cell? ⟨w.heap.size, 1, none⟩ = some (.int .i64 N)) (first | exact ⟨(HX.out _ _ H4.out.sd).1, (HX.out _ _ H4.out.sd).2, by rw [P3.cell_at G4.out.1]; rfl⟩ | exact ⟨(HX.out _ _ Hd.out.sd).1, (HX.out _ _ Hd.out.sd).2, by rw [P3.cell_at (P3.old_below G4.out.1 (Below.refl _ _).drew)]; rfl⟩ | exact ⟨(HX.out _ _ H5.out.1).1, (HX.out _ _ H5.out.1).2, by rw [P3.cell_at H5.out.2.2.2]; rfl⟩)
   ((go_at_call 41; (first | (with_reducible refine (HWd.out).mono ?_) | (with_reducible refine (HW.out).mono ?_)); rintro e w5 ⟨y, K2, rfl, h⟩; have H5 := Lib.hid h; clear h))
  all_goals
   go_wp2
   go_ret
   exact ⟨y, K2, rfl, H5.out.2.1, H5.out.2.2.1⟩
 ·have k2 : (z != 0) = true := by simp [hz]
  go_wp2
  go_ret
  exact ⟨z, K1, rfl, H4.out.stop hz _, fun q => absurd q hz⟩
end
end Go.Proofs.YtbkngnjkaledlaaGreat.P8
namespace Go.Proofs.YtbkngnjkaledlaaGreat.P8
open Go Go.RowKit Go.Lib Go.Maps Go.ChangeMaps Go.MapKept P3 P4
open P5 (Pg zer)
section
variable {w w' w1 : World} {b d m : Nat} {s : ByteArray} {z : Int} {n : Int} {K K1 K2 : Dk}
theorem putst_bad {v : Value} {l : List Pg} (hv : PagesIn w v l) (hbad : ¬ ∀ p ∈ l, okPut p) :
  Calls Tryz.prog 9 #[.pointer (some ⟨b, 0, none⟩), v] w fun e w2 => e = .returned (.int .i64 1) ∧ Below w.heap.size w w2 := by
 have HC := Lib.hid (contains_any hv true ⟨fun _ => hbad, fun _ => rfl⟩)
 clear hv hbad
 go_enter Tryz.func9, Tryz.ntmps9
 go_wp2_with (go_at_call 33; (with_reducible refine (HC.out).mono ?_); rintro e w3 ⟨rfl, hb3⟩; have H3 := Lib.hid hb3; clear hb3)
 go_ret
 exact ⟨rfl, H3.out⟩
structure PutSt (w : World) (b d : Nat) (s : ByteArray) (n : Int) (K : Dk) (m : Nat) (l : List Pg) (i : Nat) (wr : World) (K1 : Dk) (m1 : Nat) : Prop where
 pre : ∃ pre, putW m l = pre ++ putW m1 (l.drop i) ∧ Did w b d s n K pre 0 wr K1
 sz : SzF K1 s m1
 le : m1 ≤ 5000
theorem PutSt.did {l : List Pg} {i m1 : Nat} {W : World} (h : PutSt w b d s n K m l i W K1 m1) : SD W b d s n K1 ∧ Step w d K W K1 := by
 obtain ⟨pre, _, k⟩ := h.pre
 exact ⟨k.sd, k.st⟩
theorem PutSt.over {l : List Pg} {i m1 : Nat} {W W' : World} (h : PutSt w b d s n K m l i W K1 m1) (hb : Below W.heap.size W W') : PutSt w b d s n K m l i W' K1 m1 := by
 obtain ⟨⟨pre, e, k⟩, h2, h3⟩ := h
 exact ⟨⟨pre, e, k.over hb⟩, h2, h3⟩
theorem PutSt.put1 {l : List Pg} {i m1 : Nat} {W : World} {p : Pg} (h : PutSt w b d s n K m l i W K1 m1) (hp : l[i]? = some p) (ho : okPut p) (hs : s.size ≤ maxLen) (hl : K.left ≤ 9223372036854775807) (ht : K.turn + (putW m l).length < 8999) :
  Calls Tryz.prog 35 #[.pointer (some ⟨b, 0, none⟩), p.v] W fun e w2 => ∃ z K2, e = .returned (.int .i64 z) ∧ (z = 0 → ∃ m2, PutSt w b d s n K m l (i + 1) w2 K2 m2) ∧ (z ≠ 0 → Did w b d s n K (putW m l) z w2 K2) := by
 obtain ⟨⟨pre, e, k⟩, h2, h3⟩ := h
 have hd := putW_drop (m := m1) hp
 have e2 : putW m1 (l.drop i) = pageW m1 p ++ putW (max (max m1 p.id.toNat) (p.id.toNat + 1)) (l.drop (i + 1)) := by rw [hd]; unfold pageW; rw [List.append_assoc]; rfl
 have hlen : (putW m l).length = pre.length + (pageW m1 p).length + (putW (max (max m1 p.id.toNat) (p.id.toNat + 1)) (l.drop (i + 1))).length := by rw [e, e2]; simp [Nat.add_assoc]
 have hpl := pageW_len m1 p
 have hkt := k.tr.turn
 have hkl := k.tr.left
 have hid : p.id < 4000 := ho.1.2.2.2.1
 refine (k.sd.put1 p ho h2 (by omega) hs (by omega) (by omega)).mono ?_
 rintro e w2 ⟨z, K2, rfl, q1, q2⟩
 refine ⟨z, K2, rfl, fun hz => ?_, fun hz => ?_⟩
 ·subst hz
  exact ⟨_, ⟨pre ++ pageW m1 p, by rw [e, e2, List.append_assoc], k.app q1⟩, q2 rfl, by omega⟩
 ·rw [e, e2, ← List.append_assoc]
  exact (k.app q1).stop hz _
theorem SD.put (h : SD w b d s n K) {v : Value} {l : List Pg} (hv : PagesIn w v l) (hap : ∀ B off n c, v = .slice (some ⟨B, off, none⟩) n c → ¬ K.foot d B) (hok : ∀ p ∈ l, okPut p) (hm : SzF K s m) (hm2 : m ≤ 5000) (hs : s.size ≤ maxLen) (hl : K.left ≤ 9223372036854775807) (ht : K.turn + (putW m l).length < 8999) :
  Calls Tryz.prog 9 #[.pointer (some ⟨b, 0, none⟩), v] w fun e w2 => ∃ z K2, e = .returned (.int .i64 z) ∧ Did w b d s n K (putW m l) z w2 K2 := by
 have HC := Lib.hid (contains_any hv false ⟨fun q => Bool.noConfusion q, fun q => absurd hok q⟩)
 obtain ⟨av, c, rfl, hll, hc⟩ := hv
 have HP : Hid (∀ W K1 m1 i p, PutSt w b d s n K m l i W K1 m1 → l[i]? = some p → Calls Tryz.prog 35 #[.pointer (some ⟨b, 0, none⟩), .agg #[.int .i64 p.k, .int .i64 p.id, .int .i64 p.tx, .string p.body]] W fun e w2 => ∃ z K2, e = .returned (.int .i64 z) ∧ (z = 0 → ∃ m2, PutSt w b d s n K m l (i + 1) w2 K2 m2) ∧ (z ≠ 0 → Did w b d s n K (putW m l) z w2 K2)) := fun W K1 m1 i p k hp => k.put1 hp (hok p (List.mem_of_getElem? hp)) hs hl ht
 have H0 : Hid (∀ W, Below w.heap.size w W → PutSt w b d s n K m l 0 W K m) := fun W hb => ⟨⟨[], rfl, Did.none h hb⟩, hm, hm2⟩
 have HX : Hid (∀ W K1 m1 i p, PutSt w b d s n K m l i W K1 m1 → l[i]? = some p → ∃ B off, av = some ⟨B, off, none⟩ ∧ W.cell? ⟨B, off + i * 4, none⟩ = some (.int .i64 p.k) ∧ W.cell? ⟨B, off + i * 4 + 1, none⟩ = some (.int .i64 p.id) ∧ W.cell? ⟨B, off + i * 4 + 2, none⟩ = some (.int .i64 p.tx) ∧ W.cell? ⟨B, off + i * 4 + 3, none⟩ = some (.string p.body)) := fun W K1 m1 i p k hp => by
  obtain ⟨B, off, e, hbl, hcells⟩ := hc (by have := (List.getElem?_eq_some_iff.1 hp).1; omega)
  subst e
  have hst := k.did.2
  have hcell : ∀ (j : Nat) (u : Value), p.cells.toList[j]? = some u → W.cell? ⟨B, off + i * 4 + j, none⟩ = some u := fun j u hj => by
   have e1 : W.heap[B]? = w.heap[B]? := hst.fr.block B hbl (hap B off _ _ rfl)
   have e2 : W.cell? ⟨B, off + i * 4 + j, none⟩ = w.cell? ⟨B, off + i * 4 + j, none⟩ := by unfold World.cell?; rw [e1]
   rw [e2]
   exact hcells i p hp j u hj
  exact ⟨B, off, rfl, hcell 0 _ rfl, hcell 1 _ rfl, hcell 2 _ rfl, hcell 3 _ rfl⟩
 have HE : Hid (∀ W K1 m1, PutSt w b d s n K m l l.length W K1 m1 → Did w b d s n K (putW m l) 0 W K1) := fun W K1 m1 k => by
  obtain ⟨pre, e, q⟩ := k.pre
  rw [List.drop_length] at e
  rw [e, show putW m1 [] = [] from rfl, List.append_nil]
  exact q
 clear h hm hl ht hok hap hc
 go_enter Tryz.func9, Tryz.ntmps9
 go_wp2_with (go_at_call 33; (with_reducible refine (HC.out).mono ?_); rintro e w3 ⟨rfl, hb3⟩; have H3 := Lib.hid (H0.out _ hb3); clear hb3)
 clear HC H0
 go_loopw [16] (fun vi wr => ∃ (i m1 : Nat) (K1 : Dk), i ≤ l.length ∧ vi = .int .i64 i ∧ Hid (PutSt w b d s n K m l i wr K1 m1)) (fun vi _ => l.length - (RowKit.intOf vi).toNat)
 case atStart => exact ⟨0, m, K, Nat.zero_le _, rfl, H3⟩
 case round =>
  clear H3
  obtain ⟨i, m1, K1, hi, rfl, H⟩ := hrel
  by_cases hlt : i < l.length
  ·obtain ⟨p, hp⟩ : ∃ p, l[i]? = some p := ⟨_, List.getElem?_eq_getElem hlt⟩
   obtain ⟨B, off, rfl, q0, q1, q2, q3⟩ := HX.out _ _ _ _ p H.out hp
   have HK : Hid (∀ W, Below wr.heap.size wr W → Calls Tryz.prog 35 #[.pointer (some ⟨b, 0, none⟩), .agg #[.int .i64 p.k, .int .i64 p.id, .int .i64 p.tx, .string p.body]] W fun e w2 => ∃ z K2, e = .returned (.int .i64 z) ∧ (z = 0 → ∃ m2, PutSt w b d s n K m l (i + 1) w2 K2 m2) ∧ (z ≠ 0 → Did w b d s n K (putW m l) z w2 K2)) := fun W hb => HP.out W K1 m1 i p (H.out.over hb) hp
   have HN := Lib.hid (P3.below_new wr (.cells #[.int .i64 p.k, .int .i64 p.id, .int .i64 p.tx, .string p.body] 47))
   have hn := P3.new_at wr #[.int .i64 p.k, .int .i64 p.id, .int .i64 p.tx, .string p.body] 47
   have n0 : (wr.alloc (.cells #[.int .i64 p.k, .int .i64 p.id, .int .i64 p.tx, .string p.body] 47)).cell? ⟨wr.heap.size, 0, none⟩ = some (.int .i64 p.k) := by rw [P3.cell_at hn]; rfl
   have n1 : (wr.alloc (.cells #[.int .i64 p.k, .int .i64 p.id, .int .i64 p.tx, .string p.body] 47)).cell? ⟨wr.heap.size, 1, none⟩ = some (.int .i64 p.id) := by rw [P3.cell_at hn]; rfl
   have n2 : (wr.alloc (.cells #[.int .i64 p.k, .int .i64 p.id, .int .i64 p.tx, .string p.body] 47)).cell? ⟨wr.heap.size, 2, none⟩ = some (.int .i64 p.tx) := by rw [P3.cell_at hn]; rfl
   have n3 : (wr.alloc (.cells #[.int .i64 p.k, .int .i64 p.id, .int .i64 p.tx, .string p.body] 47)).cell? ⟨wr.heap.size, 3, none⟩ = some (.string p.body) := by rw [P3.cell_at hn]; rfl
   clear hp hn HP HX HE H
   go_upto_region 7 with (go_at_call 35; (with_reducible refine (HK.out _ HN.out).mono ?_); rintro e w2 ⟨z, K2, rfl, h0, h1⟩; have A0 := Lib.hid h0; have A1 := Lib.hid h1; clear h0 h1)
   clear HK HN n0 n1 n2 n3 q0 q1 q2 q3
   by_cases hz : z = 0
   ·subst hz
    obtain ⟨m2, h2⟩ := A0.out rfl
    have H2 := Lib.hid h2
    clear h2 A0 A1
    go_wp2
    go_roundw
    case rel => exact ⟨i + 1, m2, K2, by omega, by go_num, H2⟩
    case measure => simp [RowKit.intOf]; omega
   ·have k2 : (z != 0) = true := by simp [hz]
    go_wp2
    go_ret
    exact ⟨z, K2, rfl, A1.out hz⟩
  ·obtain rfl : i = l.length := by omega
   have HD := Lib.hid (HE.out _ _ _ H.out)
   clear H HE HX HP
   go_wp2
   go_ret
   exact ⟨0, K1, rfl, HD.out⟩
end
end Go.Proofs.YtbkngnjkaledlaaGreat.P8
namespace Go.Proofs.YtbkngnjkaledlaaGreat.P6
open Go Go.RowKit Go.Lib P0 P2 P5
structure Mt where
 tx : Int
 root : Int
 free : Int
 pages : Int
def Mt.v (m : Mt) : Value := .agg #[.int .i64 m.tx, .int .i64 m.root, .int .i64 m.free, .int .i64 m.pages]
def Mt.cells (m : Mt) : Array Value := #[.int .i64 m.tx, .int .i64 m.root, .int .i64 m.free, .int .i64 m.pages]
def Mt.zero : Mt := ⟨0, 0, 0, 0⟩
theorem Mt.ext' {m n : Mt} (h1 : m.tx = n.tx) (h2 : m.root = n.root) (h3 : m.free = n.free) (h4 : m.pages = n.pages) : m = n := by
 cases m; cases n; simp only at h1 h2 h3 h4; subst h1 h2 h3 h4; rfl
def Leads (i p : Int) : Prop := i = 0 ∨ (2 ≤ i ∧ i < p)
instance (i p : Int) : Decidable (Leads i p) := by unfold Leads; infer_instance
def Mt.ok (m : Mt) : Prop := (1 ≤ m.tx ∧ m.tx ≤ 1099511627776) ∧ (2 ≤ m.pages ∧ m.pages ≤ 4000) ∧ Leads m.root m.pages ∧ Leads m.free m.pages ∧ (m.root = 0 ∨ m.root ≠ m.free)
instance (m : Mt) : Decidable m.ok := by unfold Mt.ok; infer_instance
theorem Mt.ok_range {m : Mt} (h : m.ok) : 1 ≤ m.tx ∧ m.tx ≤ 1099511627776 ∧ 0 ≤ m.root ∧ m.root < 4000 ∧ 0 ≤ m.free ∧ m.free < 4000 ∧ 2 ≤ m.pages ∧ m.pages ≤ 4000 := by
 obtain ⟨⟨h1, h2⟩, ⟨h3, h4⟩, h5, h6, _⟩ := h
 unfold Leads at h5 h6
 omega
def Mt.bytes (m : Mt) : List UInt8 := low 8 m.tx.toNat ++ (low 8 m.root.toNat ++ (low 8 m.free.toNat ++ low 8 m.pages.toNat))
theorem Mt.bytes_length (m : Mt) : m.bytes.length = 32 := by simp only [Mt.bytes, List.length_append, low_length]
def Mt.sheet (m : Mt) : Pg := ⟨1, m.tx % 2, m.tx, str m.bytes⟩
theorem Mt.sheet_ok {m : Mt} (h : m.ok) : m.sheet.ok := by
 have := m.ok_range h
 refine ⟨?_, ?_, ?_, ?_, ?_, ?_, ?_⟩ <;> simp only [Mt.sheet, str_size, Mt.bytes_length] <;> omega
def Mt.sector (m : Mt) : ByteArray := m.sheet.sector
theorem Mt.sector_size {m : Mt} (h : m.ok) : m.sector.size = 256 := m.sheet.sector_size (m.sheet_ok h)
theorem eight_num {x : Int} (h0 : 0 ≤ x) (h1 : x < 9223372036854775808) : wrap64 (num (low 8 x.toNat)) = x := by
 obtain ⟨n, rfl⟩ := Int.eq_ofNat_of_zero_le h0
 have hn : n < 9223372036854775808 := by omega
 rw [Int.toNat_natCast, num_low 8 n (Nat.lt_of_lt_of_le hn (by decide))]
 exact P5.wrap_small hn
def g1 (s : ByteArray) : Int × ByteArray × Int := getNum 8 s 0
def g2 (s : ByteArray) : Int × ByteArray × Int := getNum 8 (g1 s).2.1 (g1 s).2.2
def g3 (s : ByteArray) : Int × ByteArray × Int := getNum 8 (g2 s).2.1 (g2 s).2.2
def g4 (s : ByteArray) : Int × ByteArray × Int := getNum 8 (g3 s).2.1 (g3 s).2.2
def got (s : ByteArray) : Mt := ⟨(g1 s).1, (g2 s).1, (g3 s).1, (g4 s).1⟩
def refM (s : ByteArray) : Mt := ⟨wrap64 (num (s.data.toList.take 8)), wrap64 (num ((s.data.toList.drop 8).take 8)), wrap64 (num ((s.data.toList.drop 16).take 8)), wrap64 (num ((s.data.toList.drop 24).take 8))⟩
theorem from_at6 (b : ByteArray) (n : Nat) : (b.extract n b.size).data.toList = b.data.toList.drop n := by
 rw [Lib.extract_data]
 exact List.take_of_length_le (by rw [List.length_drop, text_len]; exact Nat.le_refl _)
theorem num_at {s : ByteArray} {n : Nat} (h : n ≤ s.size) : getNum n s 0 = (wrap64 (num (s.data.toList.take n)), s.extract n s.size, 0) := by
 unfold getNum
 rw [if_pos rfl, if_pos h]
theorem got_refM {s : ByteArray} (h : s.size = 32) : got s = refM s := by
 have e1 : g1 s = (wrap64 (num (s.data.toList.take 8)), s.extract 8 s.size, 0) := num_at (by omega)
 have z1 : (s.extract 8 s.size).size = 24 := by rw [ByteArray.size_extract]; omega
 have e2 : g2 s = (wrap64 (num ((s.data.toList.drop 8).take 8)), (s.extract 8 s.size).extract 8 24, 0) := by
  unfold g2
  rw [e1]
  simp only
  rw [num_at (by omega), from_at6, z1]
 have z2 : ((s.extract 8 s.size).extract 8 24).size = 16 := by rw [ByteArray.size_extract]; omega
 have l2 : ((s.extract 8 s.size).extract 8 24).data.toList = s.data.toList.drop 16 := by
  rw [← z1, from_at6, from_at6, List.drop_drop]
 have e3 : g3 s = (wrap64 (num ((s.data.toList.drop 16).take 8)), ((s.extract 8 s.size).extract 8 24).extract 8 16, 0) := by
  unfold g3
  rw [e2]
  simp only
  rw [num_at (by omega), l2, z2]
 have z3 : (((s.extract 8 s.size).extract 8 24).extract 8 16).size = 8 := by rw [ByteArray.size_extract]; omega
 have l3 : (((s.extract 8 s.size).extract 8 24).extract 8 16).data.toList = s.data.toList.drop 24 := by
  rw [← z2, from_at6, l2, List.drop_drop]
 have e4 : (g4 s).1 = wrap64 (num ((s.data.toList.drop 24).take 8)) := by
  unfold g4
  rw [e3]
  simp only
  rw [num_at (by omega), l3]
 unfold got refM
 rw [e1, e2, e3, e4]
theorem refM_bytes {m : Mt} (h : m.ok) : refM (str m.bytes) = m := by
 have hr := m.ok_range h
 have l8 : ∀ n, (low 8 n).length = 8 := fun n => low_length 8 n
 have d8 : m.bytes.drop 8 = low 8 m.root.toNat ++ (low 8 m.free.toNat ++ low 8 m.pages.toNat) := List.drop_left' (l8 _)
 have d16 : m.bytes.drop 16 = low 8 m.free.toNat ++ low 8 m.pages.toNat := by
  rw [show 16 = 8 + 8 from rfl, ← List.drop_drop, d8]; exact List.drop_left' (l8 _)
 have d24 : m.bytes.drop 24 = low 8 m.pages.toNat := by
  rw [show 24 = 16 + 8 from rfl, ← List.drop_drop, d16]; exact List.drop_left' (l8 _)
 unfold refM
 rw [str_list, d8, d16, d24]
 apply Mt.ext'
 ·show wrap64 (num (List.take 8 m.bytes)) = _
  rw [show List.take 8 m.bytes = low 8 m.tx.toNat from List.take_left' (l8 _)]; exact eight_num (by omega) (by omega)
 ·show wrap64 (num (List.take 8 (low 8 m.root.toNat ++ _))) = _
  rw [List.take_left' (l8 _)]; exact eight_num (by omega) (by omega)
 ·show wrap64 (num (List.take 8 (low 8 m.free.toNat ++ _))) = _
  rw [List.take_left' (l8 _)]; exact eight_num (by omega) (by omega)
 ·show wrap64 (num (List.take 8 (low 8 m.pages.toNat))) = _
  rw [List.take_of_length_le (Nat.le_of_eq (l8 _))]; exact eight_num (by omega) (by omega)
theorem got_bytes {m : Mt} (h : m.ok) : got (str m.bytes) = m := by
 rw [got_refM (by rw [str_size, Mt.bytes_length]), refM_bytes h]
instance pgEq (p q : Pg) : Decidable (p = q) :=
 decidable_of_iff (p.k = q.k ∧ p.id = q.id ∧ p.tx = q.tx ∧ p.body = q.body) ⟨fun h => by
  obtain ⟨k, i, t, b⟩ := p
  obtain ⟨k', i', t', b'⟩ := q
  obtain ⟨h1, h2, h3, h4⟩ := h
  simp only at h1 h2 h3 h4
  subst h1 h2 h3 h4
  rfl, fun h => h ▸ ⟨rfl, rfl, rfl, rfl⟩⟩
def readM (b : ByteArray) : Mt := if readE b = 0 ∧ (got (readP b).body).ok ∧ readP b = (got (readP b).body).sheet then got (readP b).body else Mt.zero
def readR (b : ByteArray) : Int := if readE b = 0 then (if (got (readP b).body).ok ∧ readP b = (got (readP b).body).sheet then 0 else 6) else readE b
theorem page_there {b : ByteArray} (h : readE b = 0) : (readP b).ok ∧ b = (readP b).sector := by
 unfold readE at h
 by_cases h1 : b.size = 256
 ·rw [if_pos h1] at h
  by_cases h2 : nOf b.data.toList ≤ 232 ∧ (Pg.of b).ok ∧ b.extract 0 248 = (Pg.of b).sector.extract 0 248 ∧ b.extract 252 b.size = (Pg.of b).sector.extract 252 (Pg.of b).sector.size
  ·rw [if_pos h2] at h
   by_cases h3 : b = (Pg.of b).sector
   ·unfold readP
    rw [if_pos ⟨h1, h2.2.1, h3⟩]
    exact ⟨h2.2.1, h3⟩
   ·rw [if_neg h3] at h; exact absurd h (by decide)
  ·rw [if_neg h2] at h; exact absurd h (by decide)
 ·rw [if_neg h1] at h; exact absurd h (by decide)
theorem page_zero {b : ByteArray} (h : readE b ≠ 0) : readP b = Pg.zero := by
 unfold readP
 refine if_neg fun k => h ?_
 have := (read_yes k.2.1).2
 rw [← k.2.2] at this
 exact this
theorem meta_yes {m : Mt} (h : m.ok) : readM m.sector = m ∧ readR m.sector = 0 := by
 obtain ⟨e1, e2⟩ := read_yes (m.sheet_ok h)
 have e3 : (got (readP m.sector).body) = m := by
  show got (readP m.sheet.sector).body = m
  rw [e1]; exact got_bytes h
 have e1' : readP m.sector = m.sheet := e1
 have e2' : readE m.sector = 0 := e2
 unfold readM readR
 rw [e3, e1', e2', if_pos ⟨rfl, h, rfl⟩, if_pos rfl, if_pos ⟨h, rfl⟩]
 exact ⟨rfl, rfl⟩
theorem meta_no {b : ByteArray} (h : ∀ m : Mt, m.ok → b ≠ m.sector) : readM b = Mt.zero ∧ readR b ≠ 0 := by
 have hn : readE b = 0 → ¬ ((got (readP b).body).ok ∧ readP b = (got (readP b).body).sheet) := fun h0 k => by
  refine h _ k.1 ?_
  have := (page_there h0).2
  rw [k.2] at this
  exact this
 unfold readM readR
 constructor
 ·exact if_neg fun k => hn k.1 k.2
 ·by_cases h0 : readE b = 0
  ·rw [if_pos h0, if_neg (hn h0)]; decide
  ·rw [if_neg h0]; exact h0
theorem meta_there {b : ByteArray} (h : readR b = 0) : ∃ m : Mt, m.ok ∧ b = m.sector ∧ readM b = m := by
 by_cases k : ∃ m : Mt, m.ok ∧ b = m.sector
 ·obtain ⟨m, h1, rfl⟩ := k
  exact ⟨m, h1, rfl, (meta_yes h1).1⟩
 ·exact absurd h (meta_no fun m h1 h2 => k ⟨m, h1, h2⟩).2
theorem meta_none {b : ByteArray} (h : readR b ≠ 0) : readM b = Mt.zero := by
 unfold readM
 refine if_neg fun k => h ?_
 unfold readR
 rw [if_pos k.1, if_pos k.2]
theorem readR_ref (b : ByteArray) (h : readE b = 0) : (readR b = 0 ↔ (readP b).body.size = 32 ∧ (refM (readP b).body).ok ∧ (refM (readP b).body).sector = b) ∧ ((readP b).body.size = 32 ∧ (refM (readP b).body).ok ∧ (refM (readP b).body).sector = b → readM b = refM (readP b).body) := by
 constructor
 ·constructor
  ·intro h0
   obtain ⟨m, h1, rfl, _⟩ := meta_there h0
   have e1 : readP m.sector = m.sheet := (read_yes (m.sheet_ok h1)).1
   rw [e1]
   have e2 : refM m.sheet.body = m := refM_bytes h1
   rw [e2]
   exact ⟨by show (str m.bytes).size = 32; rw [str_size, Mt.bytes_length], h1, rfl⟩
  ·rintro ⟨h1, h2, h3⟩
   rw [← h3]
   exact (meta_yes h2).2
 ·rintro ⟨h1, h2, h3⟩
  have := (meta_yes h2).1
  rw [h3] at this
  exact this
theorem readR_six {b : ByteArray} (h : readE b = 0) (h1 : readR b ≠ 0) : readR b = 6 := by
 unfold readR at *
 rw [if_pos h] at *
 by_cases k : (got (readP b).body).ok ∧ readP b = (got (readP b).body).sheet
 ·rw [if_pos k] at h1; exact absurd rfl h1
 ·rw [if_neg k]
end Go.Proofs.YtbkngnjkaledlaaGreat.P6
