/-
  Texts of the proof of SaidKeeps8, side by side: St4, St5.
-/
import Derived.Test.YtbkngnjkaledlaaGreatMk36
/-
  Package store: a page put, a list of pages put. (Store, part 4.)
-/
namespace Go.Proofs.YtbkngnjkaledlaaGreat.P8
open Go Go.RowKit Go.Lib Go.Maps Go.ChangeMaps Go.MapKept Go.Proofs.YtbkngnjkaledlaaGreat.P3 Go.Proofs.YtbkngnjkaledlaaGreat.P4
open Go.Proofs.YtbkngnjkaledlaaGreat.P5 (Pg zer lay_any laidB laidE)

section
variable {w w' w1 : World} {b d m : Nat} {s data : ByteArray} {i z : Int} {n : Int} {K K1 K2 : Dk} {l k : List (Int × ByteArray)}
/-- one call behind the other -/
theorem Did.app {W : World} {z1 : Int} (h : Did w b d s n K l 0 w1 K1) (h2 : Did w1 b d s n K1 k z1 W K2) : Did w b d s n K (l ++ k) z1 W K2 :=
  ⟨h.tr.app (.inl ⟨rfl, h2.tr⟩), h2.sd, h.st.trans h2.st⟩
theorem Did.stop (h : Did w b d s n K l z w1 K1) (hz : z ≠ 0) (k : List (Int × ByteArray)) : Did w b d s n K (l ++ k) z w1 K1 :=
  ⟨h.tr.app (.inr ⟨hz, rfl, rfl⟩), h.sd, h.st⟩
theorem Did.none (h : SD w b d s n K) (hb : Below w.heap.size w w1) : Did w b d s n K [] 0 w1 K := ⟨.nil K, h.below hb, Step.below h.2.1 hb⟩
/-- one write -/
theorem SD.write (h : SD w b d s n K) (hm : SzF K s m) (hs : s.size ≤ maxLen) (hl : K.left ≤ 9223372036854775807) (ht : K.turn < 8999) (i : Int) (data : ByteArray) (hd : data.size ≤ maxLen) :
    Calls Tryz.prog 41 #[.pointer (some ⟨d, 0, none⟩), .string s, .int .i64 i, .string data] w fun e w2 => ∃ z K2, e = .returned (.int .i64 z) ∧ Did w b d s n K [(i, data)] z w2 K2 ∧ (z = 0 → SzF K2 s (max m (i.toNat + 1))) := by
  refine (h.2.1.writeK hl (by omega) s i data hs).mono ?_
  rintro e w2 ⟨z, K2, rfl, hst, hwk⟩
  refine ⟨z, K2, rfl, ⟨?_, h.step hst, hst⟩, fun hz => ?_⟩
  · by_cases hz : z = 0
    · subst hz; exact .ok h.2.1 ht hd hwk (.nil _)
    · exact .bad h.2.1 ht hd hwk hz
  · subst hz
    exact ((hm.k hwk).write hwk).1.f
/-- what a page's put writes -/
def pageW (m : Nat) (p : Pg) : List (Int × ByteArray) := zerosW (zer 256) m p.id.toNat ++ [(p.id, p.sector)]
theorem pageW_len (m : Nat) (p : Pg) : (pageW m p).length = p.id.toNat - m + 1 := by simp [pageW, zerosW_len]
set_option maxRecDepth 100000 in
set_option maxHeartbeats 2000000 in
theorem SD.put1 (h : SD w b d s n K) (p : Pg) (ho : okPut p) (hm : SzF K s m) (hm2 : m ≤ 100000) (hs : s.size ≤ maxLen) (hl : K.left ≤ 9223372036854775807) (ht : K.turn + (p.id.toNat - m + 1) < 8999) :
    Calls Tryz.prog 35 #[.pointer (some ⟨b, 0, none⟩), p.v] w fun e w2 => ∃ z K2, e = .returned (.int .i64 z) ∧ Did w b d s n K (pageW m p) z w2 K2 ∧ (z = 0 → SzF K2 s (max (max m p.id.toNat) (p.id.toNat + 1))) := by
  obtain ⟨o1, o2, o3⟩ := ho
  obtain ⟨N, hN⟩ : ∃ N : Nat, p.id = N := ⟨p.id.toNat, by omega⟩
  have hN4 : N < 4000 := by have := o1.2.2.2.1; omega
  have hz : p.sector.size = 256 := p.sector_size o1
  obtain ⟨S, hS⟩ : ∃ S, S = p.sector := ⟨_, rfl⟩
  have HL : Hid (∀ W, Calls Tryz.prog 85 #[.agg #[.int .i64 p.k, .int .i64 N, .int .i64 p.tx, .string p.body]] W fun e w' => e = .returned (.tuple #[.string S, .int .i64 0]) ∧ Below W.heap.size W w') := fun W => by
    have q := lay_any W p
    rw [show laidB p = p.sector from if_pos o1, show laidE p = 0 from if_pos o1] at q
    rw [hS, ← hN]
    exact q
  have hsz : S.size ≤ maxLen := by rw [hS, hz]; decide
  unfold pageW
  rw [← hS, hN, Int.toNat_natCast]
  rw [hN, Int.toNat_natCast] at ht
  have HF : Hid (∀ W, SD W b d s n K → Calls Tryz.prog 40 #[.pointer (some ⟨b, 0, none⟩), .int .i64 N] W fun e w2 => ∃ z K2, e = .returned (.int .i64 z) ∧ Did W b d s n K (zerosW (zer 256) m N) z w2 K2 ∧ (z = 0 → SzF K2 s (max m N) ∧ K2.turn ≤ K.turn + (N - m))) := fun W k => k.fill N (by omega) hm hm2 hs hl (by omega)
  have HWr : Hid (∀ W K1, Did w b d s n K (zerosW (zer 256) m N) 0 W K1 → SzF K1 s (max m N) → K1.turn ≤ K.turn + (N - m) → ¬ K1.foot d w.heap.size → W.heap[w.heap.size]? = some (.cells #[.int .i64 p.k, .int .i64 N, .int .i64 p.tx, .string p.body] 47 (0, 0)) → Calls Tryz.prog 41 #[.pointer (some ⟨d, 0, none⟩), .string s, .int .i64 N, .string S] W fun e w2 => ∃ z K2, e = .returned (.int .i64 z) ∧ SD w2 b d s n K2 ∧ Did w b d s n K (zerosW (zer 256) m N ++ [((N : Int), S)]) z w2 K2 ∧ (z = 0 → SzF K2 s (max (max m N) (N + 1))) ∧ w2.heap[w.heap.size]? = some (.cells #[.int .i64 p.k, .int .i64 N, .int .i64 p.tx, .string p.body] 47 (0, 0))) := fun W K1 k1 k2 k3 k4 k5 => by
    have q := k1.tr.left
    refine (k1.sd.write k2 hs (by omega) (by omega) N S hsz).mono ?_
    rintro e w2 ⟨z, K2, rfl, h1, h2⟩
    exact ⟨z, K2, rfl, h1.sd, k1.app h1, h2, h1.st.fr.keep k5 k4⟩
  have HB : Hid (∀ W, Below (w.alloc (.cells #[.int .i64 p.k, .int .i64 N, .int .i64 p.tx, .string p.body] 47)).heap.size (w.alloc (.cells #[.int .i64 p.k, .int .i64 N, .int .i64 p.tx, .string p.body] 47)) W → W.heap[w.heap.size]? = some (.cells #[.int .i64 p.k, .int .i64 N, .int .i64 p.tx, .string p.body] 47 (0, 0)) ∧ SD W b d s n K ∧ Below w.heap.size w W) := fun W hb =>
    ⟨P3.old_below (P3.new_at w _ _) hb, h.below (thenBelow (P3.below_new w _) hb), thenBelow (P3.below_new w _) hb⟩
  have HG : Hid (∀ W W2 z K2, Below w.heap.size w W → Did W b d s n K (zerosW (zer 256) m N) z W2 K2 → Did w b d s n K (zerosW (zer 256) m N) z W2 K2) := fun W W2 z K2 hb k => ⟨k.tr, k.sd, (Step.below h.2.1 hb).trans k.st⟩
  have HK : Hid (∀ W W2 z K2, Below w.heap.size w W → W.heap[w.heap.size]? = some (.cells #[.int .i64 p.k, .int .i64 N, .int .i64 p.tx, .string p.body] 47 (0, 0)) → Did W b d s n K (zerosW (zer 256) m N) z W2 K2 → W2.heap[w.heap.size]? = some (.cells #[.int .i64 p.k, .int .i64 N, .int .i64 p.tx, .string p.body] 47 (0, 0)) ∧ ¬ K2.foot d w.heap.size) := fun W W2 z K2 hb hw k =>
    ⟨k.st.fr.keep hw (fun q => Nat.lt_irrefl _ (h.2.1.foot_lt _ q)), fun q => (k.st.foot _ q).elim (fun q => Nat.lt_irrefl _ (h.2.1.foot_lt _ q)) (fun q => by have := P3.lt_of_block hw; omega)⟩
  have HX : Hid (∀ W K', SD W b d s n K' → W.cell? ⟨b, 0, none⟩ = some (.pointer (some ⟨d, 0, none⟩)) ∧ W.cell? ⟨b, 1, none⟩ = some (.string s)) := fun _ _ k => k.cells
  have e : p.v = .agg #[.int .i64 p.k, .int .i64 N, .int .i64 p.tx, .string p.body] := by unfold Pg.v; rw [hN]
  rw [e]
  have hb0 := HB.out _ (Below.refl _ _)
  have p0 : (w.alloc (.cells #[.int .i64 p.k, .int .i64 N, .int .i64 p.tx, .string p.body] 47)).cell? ⟨w.heap.size, 0, none⟩ = some (.int .i64 p.k) := by rw [P3.cell_at hb0.1]; rfl
  have p1 : (w.alloc (.cells #[.int .i64 p.k, .int .i64 N, .int .i64 p.tx, .string p.body] 47)).cell? ⟨w.heap.size, 1, none⟩ = some (.int .i64 N) := by rw [P3.cell_at hb0.1]; rfl
  have p2 : (w.alloc (.cells #[.int .i64 p.k, .int .i64 N, .int .i64 p.tx, .string p.body] 47)).cell? ⟨w.heap.size, 2, none⟩ = some (.int .i64 p.tx) := by rw [P3.cell_at hb0.1]; rfl
  have p3 : (w.alloc (.cells #[.int .i64 p.k, .int .i64 N, .int .i64 p.tx, .string p.body] 47)).cell? ⟨w.heap.size, 3, none⟩ = some (.string p.body) := by rw [P3.cell_at hb0.1]; rfl
  clear h hm hl ht o1 o2 o3 hN hz hS e hb0
  go_enter Tryz.func35, Tryz.ntmps35
  go_upto_region 4 with (go_at_call 85; (with_reducible refine (HL.out _).mono ?_); rintro e w2 ⟨rfl, hb⟩; obtain ⟨g1, g2, g3⟩ := HB.out _ hb; have G1 := Lib.hid g1; have G2 := Lib.hid g2; have G3 := Lib.hid g3; have q1 : w2.cell? ⟨w.heap.size, 1, none⟩ = some (.int .i64 N) := (by rw [P3.cell_at g1]; rfl); clear hb g1 g2 g3)
  clear p0 p1 p2 p3 HL HB
  go_upto_region 5 with (go_at_call 40; (with_reducible refine (HF.out _ G2.out).mono ?_); rintro e w4 ⟨z, K1, rfl, hd, hz⟩; have H4 := Lib.hid (HG.out _ _ _ _ G3.out hd); have Z4 := Lib.hid hz; have G4 := Lib.hid (HK.out _ _ _ _ G3.out G1.out hd); clear hd hz)
  clear HF HG HK G1 G2 G3 q1
  by_cases hz : z = 0
  · subst hz
    obtain ⟨z1, z2⟩ := Z4.out rfl
    have Z1 := Lib.hid z1
    have Z2 := Lib.hid z2
    have Hd := Lib.hid (H4.out.over (Below.refl _ _).drew)
    have HW := Lib.hid (HWr.out _ _ H4.out z1 z2 G4.out.2 G4.out.1)
    have HWd := Lib.hid (HWr.out _ _ Hd.out z1 z2 G4.out.2 (P3.old_below G4.out.1 (Below.refl _ _).drew))
    clear z1 z2 Z4 HWr
    go_upto_region 7 with fail
    go_region_held3 (fun W' => W'.cell? ⟨b, 0, none⟩ = some (.pointer (some ⟨d, 0, none⟩)) ∧ W'.cell? ⟨b, 1, none⟩ = some (.string s) ∧ W'.cell? ⟨w.heap.size, 1, none⟩ = some (.int .i64 N)) (first | exact ⟨(HX.out _ _ H4.out.sd).1, (HX.out _ _ H4.out.sd).2, by rw [P3.cell_at G4.out.1]; rfl⟩ | exact ⟨(HX.out _ _ Hd.out.sd).1, (HX.out _ _ Hd.out.sd).2, by rw [P3.cell_at (P3.old_below G4.out.1 (Below.refl _ _).drew)]; rfl⟩ | exact ⟨(HX.out _ _ H5.out.1).1, (HX.out _ _ H5.out.1).2, by rw [P3.cell_at H5.out.2.2.2]; rfl⟩)
      ((go_at_call 41; (first | (with_reducible refine (HWd.out).mono ?_) | (with_reducible refine (HW.out).mono ?_)); rintro e w5 ⟨y, K2, rfl, h⟩; have H5 := Lib.hid h; clear h))
    all_goals
      go_wp2
      go_ret
      exact ⟨y, K2, rfl, H5.out.2.1, H5.out.2.2.1⟩
  · have k2 : (z != 0) = true := by simp [hz]
    go_wp2
    go_ret
    exact ⟨z, K1, rfl, H4.out.stop hz _, fun q => absurd q hz⟩
end
end Go.Proofs.YtbkngnjkaledlaaGreat.P8

/-
  Package store: Put. (Store, part 5.)
-/
namespace Go.Proofs.YtbkngnjkaledlaaGreat.P8
open Go Go.RowKit Go.Lib Go.Maps Go.ChangeMaps Go.MapKept Go.Proofs.YtbkngnjkaledlaaGreat.P3 Go.Proofs.YtbkngnjkaledlaaGreat.P4
open Go.Proofs.YtbkngnjkaledlaaGreat.P5 (Pg zer)

section
variable {w w' w1 : World} {b d m : Nat} {s : ByteArray} {z : Int} {n : Int} {K K1 K2 : Dk}
theorem put_nil (w : World) (v : Value) : Calls Tryz.prog 9 #[.pointer none, v] w fun e w' => e = .returned (.int .i64 1) ∧ Below w.heap.size w w' := by
  go_enter Tryz.func9, Tryz.ntmps9
  go_wp2
  go_ret
  exact ⟨rfl, Below.refl _ _⟩
theorem putst_bad {v : Value} {l : List Pg} (hv : PagesIn w v l) (hbad : ¬ ∀ p ∈ l, okPut p) :
    Calls Tryz.prog 9 #[.pointer (some ⟨b, 0, none⟩), v] w fun e w2 => e = .returned (.int .i64 1) ∧ Below w.heap.size w w2 := by
  have HC := Lib.hid (contains_any hv true ⟨fun _ => hbad, fun _ => rfl⟩)
  clear hv hbad
  go_enter Tryz.func9, Tryz.ntmps9
  go_wp2_with (go_at_call 33; (with_reducible refine (HC.out).mono ?_); rintro e w3 ⟨rfl, hb3⟩; have H3 := Lib.hid hb3; clear hb3)
  go_ret
  exact ⟨rfl, H3.out⟩
/-- i of the pages are put -/
structure PutSt (w : World) (b d : Nat) (s : ByteArray) (n : Int) (K : Dk) (m : Nat) (l : List Pg) (i : Nat) (wr : World) (K1 : Dk) (m1 : Nat) : Prop where
  pre : ∃ pre, putW m l = pre ++ putW m1 (l.drop i) ∧ Did w b d s n K pre 0 wr K1
  sz : SzF K1 s m1
  le : m1 ≤ 5000
theorem PutSt.did {l : List Pg} {i m1 : Nat} {W : World} (h : PutSt w b d s n K m l i W K1 m1) : SD W b d s n K1 ∧ Step w d K W K1 := by
  obtain ⟨pre, _, k⟩ := h.pre
  exact ⟨k.sd, k.st⟩
theorem PutSt.over {l : List Pg} {i m1 : Nat} {W W' : World} (h : PutSt w b d s n K m l i W K1 m1) (hb : Below W.heap.size W W') : PutSt w b d s n K m l i W' K1 m1 := by
  obtain ⟨⟨pre, e, k⟩, h2, h3⟩ := h
  exact ⟨⟨pre, e, k.over hb⟩, h2, h3⟩
theorem PutSt.put1 {l : List Pg} {i m1 : Nat} {W : World} {p : Pg} (h : PutSt w b d s n K m l i W K1 m1) (hp : l[i]? = some p) (ho : okPut p) (hs : s.size ≤ maxLen) (hl : K.left ≤ 9223372036854775807) (ht : K.turn + (putW m l).length < 8999) :
    Calls Tryz.prog 35 #[.pointer (some ⟨b, 0, none⟩), p.v] W fun e w2 => ∃ z K2, e = .returned (.int .i64 z) ∧ (z = 0 → ∃ m2, PutSt w b d s n K m l (i + 1) w2 K2 m2) ∧ (z ≠ 0 → Did w b d s n K (putW m l) z w2 K2) := by
  obtain ⟨⟨pre, e, k⟩, h2, h3⟩ := h
  have hd := putW_drop (m := m1) hp
  have e2 : putW m1 (l.drop i) = pageW m1 p ++ putW (max (max m1 p.id.toNat) (p.id.toNat + 1)) (l.drop (i + 1)) := by rw [hd]; unfold pageW; rw [List.append_assoc]; rfl
  have hlen : (putW m l).length = pre.length + (pageW m1 p).length + (putW (max (max m1 p.id.toNat) (p.id.toNat + 1)) (l.drop (i + 1))).length := by rw [e, e2]; simp [Nat.add_assoc]
  have hpl := pageW_len m1 p
  have hkt := k.tr.turn
  have hkl := k.tr.left
  have hid : p.id < 4000 := ho.1.2.2.2.1
  refine (k.sd.put1 p ho h2 (by omega) hs (by omega) (by omega)).mono ?_
  rintro e w2 ⟨z, K2, rfl, q1, q2⟩
  refine ⟨z, K2, rfl, fun hz => ?_, fun hz => ?_⟩
  · subst hz
    exact ⟨_, ⟨pre ++ pageW m1 p, by rw [e, e2, List.append_assoc], k.app q1⟩, q2 rfl, by omega⟩
  · rw [e, e2, ← List.append_assoc]
    exact (k.app q1).stop hz _
set_option maxRecDepth 100000 in
set_option maxHeartbeats 4000000 in
theorem SD.put (h : SD w b d s n K) {v : Value} {l : List Pg} (hv : PagesIn w v l) (hap : ∀ B off n c, v = .slice (some ⟨B, off, none⟩) n c → ¬ K.foot d B) (hok : ∀ p ∈ l, okPut p) (hm : SzF K s m) (hm2 : m ≤ 5000) (hs : s.size ≤ maxLen) (hl : K.left ≤ 9223372036854775807) (ht : K.turn + (putW m l).length < 8999) :
    Calls Tryz.prog 9 #[.pointer (some ⟨b, 0, none⟩), v] w fun e w2 => ∃ z K2, e = .returned (.int .i64 z) ∧ Did w b d s n K (putW m l) z w2 K2 := by
  have HC := Lib.hid (contains_any hv false ⟨fun q => Bool.noConfusion q, fun q => absurd hok q⟩)
  obtain ⟨av, c, rfl, hll, hc⟩ := hv
  have HP : Hid (∀ W K1 m1 i p, PutSt w b d s n K m l i W K1 m1 → l[i]? = some p → Calls Tryz.prog 35 #[.pointer (some ⟨b, 0, none⟩), .agg #[.int .i64 p.k, .int .i64 p.id, .int .i64 p.tx, .string p.body]] W fun e w2 => ∃ z K2, e = .returned (.int .i64 z) ∧ (z = 0 → ∃ m2, PutSt w b d s n K m l (i + 1) w2 K2 m2) ∧ (z ≠ 0 → Did w b d s n K (putW m l) z w2 K2)) := fun W K1 m1 i p k hp => k.put1 hp (hok p (List.mem_of_getElem? hp)) hs hl ht
  have H0 : Hid (∀ W, Below w.heap.size w W → PutSt w b d s n K m l 0 W K m) := fun W hb => ⟨⟨[], rfl, Did.none h hb⟩, hm, hm2⟩
  have HX : Hid (∀ W K1 m1 i p, PutSt w b d s n K m l i W K1 m1 → l[i]? = some p → ∃ B off, av = some ⟨B, off, none⟩ ∧ W.cell? ⟨B, off + i * 4, none⟩ = some (.int .i64 p.k) ∧ W.cell? ⟨B, off + i * 4 + 1, none⟩ = some (.int .i64 p.id) ∧ W.cell? ⟨B, off + i * 4 + 2, none⟩ = some (.int .i64 p.tx) ∧ W.cell? ⟨B, off + i * 4 + 3, none⟩ = some (.string p.body)) := fun W K1 m1 i p k hp => by
    obtain ⟨B, off, e, hbl, hcells⟩ := hc (by have := (List.getElem?_eq_some_iff.1 hp).1; omega)
    subst e
    have hst := k.did.2
    have hcell : ∀ (j : Nat) (u : Value), p.cells.toList[j]? = some u → W.cell? ⟨B, off + i * 4 + j, none⟩ = some u := fun j u hj => by
      have e1 : W.heap[B]? = w.heap[B]? := hst.fr.block B hbl (hap B off _ _ rfl)
      have e2 : W.cell? ⟨B, off + i * 4 + j, none⟩ = w.cell? ⟨B, off + i * 4 + j, none⟩ := by unfold World.cell?; rw [e1]
      rw [e2]
      exact hcells i p hp j u hj
    exact ⟨B, off, rfl, hcell 0 _ rfl, hcell 1 _ rfl, hcell 2 _ rfl, hcell 3 _ rfl⟩
  have HE : Hid (∀ W K1 m1, PutSt w b d s n K m l l.length W K1 m1 → Did w b d s n K (putW m l) 0 W K1) := fun W K1 m1 k => by
    obtain ⟨pre, e, q⟩ := k.pre
    rw [List.drop_length] at e
    rw [e, show putW m1 [] = [] from rfl, List.append_nil]
    exact q
  clear h hm hl ht hok hap hc
  go_enter Tryz.func9, Tryz.ntmps9
  go_wp2_with (go_at_call 33; (with_reducible refine (HC.out).mono ?_); rintro e w3 ⟨rfl, hb3⟩; have H3 := Lib.hid (H0.out _ hb3); clear hb3)
  clear HC H0
  go_loopw [16] (fun vi wr => ∃ (i m1 : Nat) (K1 : Dk), i ≤ l.length ∧ vi = .int .i64 i ∧ Hid (PutSt w b d s n K m l i wr K1 m1)) (fun vi _ => l.length - (RowKit.intOf vi).toNat)
  case atStart => exact ⟨0, m, K, Nat.zero_le _, rfl, H3⟩
  case round =>
    clear H3
    obtain ⟨i, m1, K1, hi, rfl, H⟩ := hrel
    by_cases hlt : i < l.length
    · obtain ⟨p, hp⟩ : ∃ p, l[i]? = some p := ⟨_, List.getElem?_eq_getElem hlt⟩
      obtain ⟨B, off, rfl, q0, q1, q2, q3⟩ := HX.out _ _ _ _ p H.out hp
      have HK : Hid (∀ W, Below wr.heap.size wr W → Calls Tryz.prog 35 #[.pointer (some ⟨b, 0, none⟩), .agg #[.int .i64 p.k, .int .i64 p.id, .int .i64 p.tx, .string p.body]] W fun e w2 => ∃ z K2, e = .returned (.int .i64 z) ∧ (z = 0 → ∃ m2, PutSt w b d s n K m l (i + 1) w2 K2 m2) ∧ (z ≠ 0 → Did w b d s n K (putW m l) z w2 K2)) := fun W hb => HP.out W K1 m1 i p (H.out.over hb) hp
      have HN := Lib.hid (P3.below_new wr (.cells #[.int .i64 p.k, .int .i64 p.id, .int .i64 p.tx, .string p.body] 47))
      have hn := P3.new_at wr #[.int .i64 p.k, .int .i64 p.id, .int .i64 p.tx, .string p.body] 47
      have n0 : (wr.alloc (.cells #[.int .i64 p.k, .int .i64 p.id, .int .i64 p.tx, .string p.body] 47)).cell? ⟨wr.heap.size, 0, none⟩ = some (.int .i64 p.k) := by rw [P3.cell_at hn]; rfl
      have n1 : (wr.alloc (.cells #[.int .i64 p.k, .int .i64 p.id, .int .i64 p.tx, .string p.body] 47)).cell? ⟨wr.heap.size, 1, none⟩ = some (.int .i64 p.id) := by rw [P3.cell_at hn]; rfl
      have n2 : (wr.alloc (.cells #[.int .i64 p.k, .int .i64 p.id, .int .i64 p.tx, .string p.body] 47)).cell? ⟨wr.heap.size, 2, none⟩ = some (.int .i64 p.tx) := by rw [P3.cell_at hn]; rfl
      have n3 : (wr.alloc (.cells #[.int .i64 p.k, .int .i64 p.id, .int .i64 p.tx, .string p.body] 47)).cell? ⟨wr.heap.size, 3, none⟩ = some (.string p.body) := by rw [P3.cell_at hn]; rfl
      clear hp hn HP HX HE H
      go_upto_region 7 with (go_at_call 35; (with_reducible refine (HK.out _ HN.out).mono ?_); rintro e w2 ⟨z, K2, rfl, h0, h1⟩; have A0 := Lib.hid h0; have A1 := Lib.hid h1; clear h0 h1)
      clear HK HN n0 n1 n2 n3 q0 q1 q2 q3
      by_cases hz : z = 0
      · subst hz
        obtain ⟨m2, h2⟩ := A0.out rfl
        have H2 := Lib.hid h2
        clear h2 A0 A1
        go_wp2
        go_roundw
        case rel => exact ⟨i + 1, m2, K2, by omega, by go_num, H2⟩
        case measure => simp [RowKit.intOf]; omega
      · have k2 : (z != 0) = true := by simp [hz]
        go_wp2
        go_ret
        exact ⟨z, K2, rfl, A1.out hz⟩
    · obtain rfl : i = l.length := by omega
      have HD := Lib.hid (HE.out _ _ _ H.out)
      clear H HE HX HP
      go_wp2
      go_ret
      exact ⟨0, K1, rfl, HD.out⟩
end
end Go.Proofs.YtbkngnjkaledlaaGreat.P8
