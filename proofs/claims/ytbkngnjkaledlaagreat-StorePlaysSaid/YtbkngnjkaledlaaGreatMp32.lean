/-
  Texts of the proof of SaidPlay8b.
-/
import Derived.Test.YtbkngnjkaledlaaGreatMp31
set_option maxHeartbeats 8000000
set_option maxRecDepth 100000
namespace Go.Proofs.YtbkngnjkaledlaaGreat.P8
open Go Go.RowKit Go.Lib Go.Maps Go.ChangeMaps Go.MapKept P3 P4
open P5 (zer repeat_zer zer_size)
section
variable {w w' w1 : World} {b d m : Nat} {s data : ByteArray} {i z : Int} {n : Int} {K K1 K2 : Dk} {l : List (Int × ByteArray)}
def SzF (K : Dk) (s : ByteArray) (m : Nat) : Prop := sizeF K.on s.size (getF K.files s.data.toList) = m
theorem SzK.f (h : SzK K s m) : SzF K s m := by
 obtain ⟨h1, h2, h3⟩ := h
 unfold SzF sizeF
 rw [if_pos h2, ← h3]
 unfold sizeN
 cases getF K.files s.data.toList <;> rfl
theorem wk_ok (h : WK d K s i data 0 K1 w1) : P4.writeE K s i data.size = 0 := by
 rcases h with ⟨q1, q2, _⟩ | ⟨_, _, q, _⟩ | ⟨q1, _⟩
 ·exact absurd q2.symm q1
 ·exact absurd q (by decide)
 ·exact q1
theorem write_on {k : Nat} (h : P4.writeE K s i k = 0) : errn K.on s.size = 0 := by
 unfold P4.writeE at h
 by_cases e : errn K.on s.size = 0
 ·exact e
 ·rw [if_pos e] at h; exact h
theorem SzF.k (h : SzF K s m) (hw : WK d K s i data 0 K1 w1) : SzK K s m := by
 have e := write_on (wk_ok hw)
 refine ⟨errn_on e, e, ?_⟩
 unfold SzF sizeF at h
 rw [if_pos e] at h
 rw [← h]
 unfold sizeN
 cases getF K.files s.data.toList <;> rfl
theorem wk_turn (h : WK d K s i data z K1 w1) : K1.turn ≤ K.turn + 1 := by
 rcases h with ⟨_, _, rfl⟩ | ⟨_, _, _, w0, K0, n, _, hw, hc⟩ | ⟨_, _, _, K0, hw, rfl⟩
 ·exact Nat.le_succ _
 ·rw [hc.eq]; show K0.turn ≤ _; rw [hw.same]; exact Nat.le_refl _
 ·have e : (counted K0).turn = K0.turn := by unfold counted; split <;> rfl
  rw [e, hw.same]; exact Nat.le_refl _
theorem wk_left (h : WK d K s i data z K1 w1) : K1.left ≤ max K.left 0 := by
 rcases h with ⟨_, _, rfl⟩ | ⟨_, _, _, w0, K0, n, _, hw, hc⟩ | ⟨_, _, _, K0, hw, rfl⟩
 ·omega
 ·rw [hc.eq]; show (0 : Int) ≤ _; omega
 ·have e : (counted K0).left ≤ K0.left := by
   unfold counted
   split
   ·show K0.left - 1 ≤ _; omega
   ·omega
  have e2 : K0.left = K.left := by rw [hw.same]
  omega
theorem WTr.turn (h : WTr d s K l z K2) : K2.turn ≤ K.turn + l.length := by
 induction h with
 | nil K => exact Nat.le_refl _
 | ok hK ht hdm hw rest ih => have := wk_turn hw; simp only [List.length_cons]; omega
 | bad hK ht hdm hw hz => have := wk_turn hw; simp only [List.length_cons]; omega
theorem WTr.left (h : WTr d s K l z K2) : K2.left ≤ max K.left 0 := by
 induction h with
 | nil K => omega
 | ok hK ht hdm hw rest ih => have := wk_left hw; omega
 | bad hK ht hdm hw hz => exact wk_left hw
theorem zerosW_len (zs : ByteArray) (n m : Nat) : (zerosW zs n m).length = m - n := by simp [zerosW]
theorem zerosW_snoc {zs : ByteArray} {n m : Nat} (h : n ≤ m) : zerosW zs n (m + 1) = zerosW zs n m ++ [((m : Int), zs)] := by
 unfold zerosW
 rw [show m + 1 - n = (m - n) + 1 by omega, List.range_succ, List.map_append, List.map_cons, List.map_nil, show n + (m - n) = m by omega]
theorem zerosW_max (zs : ByteArray) (n m : Nat) : zerosW zs n (max n m) = zerosW zs n m := by
 by_cases h : m ≤ n
 ·rw [zerosW_done h, zerosW_done (by omega)]
 ·rw [Nat.max_eq_right (by omega)]
theorem zerosW_cut {zs : ByteArray} {n j m : Nat} (h1 : n ≤ j) (h2 : j < m) : zerosW zs n m = zerosW zs n j ++ ((j : Int), zs) :: zerosW zs (j + 1) m := by
 obtain ⟨q, rfl⟩ : ∃ q, m = j + 1 + q := ⟨m - (j + 1), by omega⟩
 clear h2
 induction q with
 | zero => rw [Nat.add_zero, zerosW_snoc h1, zerosW_done (n := j + 1) (Nat.le_refl _)]
 | succ q ih => rw [← Nat.add_assoc, zerosW_snoc (by omega), ih, zerosW_snoc (by omega), List.append_assoc, List.cons_append]
structure FillSt (w : World) (b d : Nat) (s : ByteArray) (n : Int) (K : Dk) (m j : Nat) (wr : World) (K1 : Dk) : Prop where
 tr : WTr d s K (zerosW (zer 256) m j) 0 K1
 sd : SD wr b d s n K1
 st : Step w d K wr K1
 sz : SzF K1 s j
 turn : K1.turn ≤ K.turn + (j - m)
 left : K1.left ≤ max K.left 0
theorem FillSt.over {W W' : World} {j : Nat} (h : FillSt w b d s n K m j W K1) (hb : Below W.heap.size W W') : FillSt w b d s n K m j W' K1 :=
 ⟨h.tr, h.sd.below hb, h.st.trans (Step.below h.sd.2.1 hb), h.sz, h.turn, h.left⟩
structure Did (w : World) (b d : Nat) (s : ByteArray) (n : Int) (K : Dk) (l : List (Int × ByteArray)) (z : Int) (W : World) (K2 : Dk) : Prop where
 tr : WTr d s K l z K2
 sd : SD W b d s n K2
 st : Step w d K W K2
theorem Did.over {W W' : World} (h : Did w b d s n K l z W K2) (hb : Below W.heap.size W W') : Did w b d s n K l z W' K2 :=
 ⟨h.tr, h.sd.below hb, h.st.trans (Step.below h.sd.2.1 hb)⟩
theorem FillSt.write {W : World} {j N : Nat} (h : FillSt w b d s n K m j W K1) (hmj : m ≤ j) (hj : j < N) (hs : s.size ≤ maxLen) (hl : K.left ≤ 9223372036854775807) (ht : K.turn + (N - m) < 8999) :
  Calls Tryz.prog 41 #[.pointer (some ⟨d, 0, none⟩), .string s, .int .i64 j, .string (zer 256)] W fun e w2 => ∃ z K2, e = .returned (.int .i64 z) ∧ SD w2 b d s n K2 ∧ (z = 0 → FillSt w b d s n K m (j + 1) w2 K2) ∧ (z ≠ 0 → Did w b d s n K (zerosW (zer 256) m N) z w2 K2) := by
 have hleft := h.left
 have hturn := h.turn
 refine (h.sd.2.1.writeK (by omega) (by omega) s j (zer 256) hs).mono ?_
 rintro e w2 ⟨z, K2, rfl, hst, hwk⟩
 have hsd := h.sd.step hst
 refine ⟨z, K2, rfl, hsd, fun hz => ?_, fun hz => ?_⟩
 ·subst hz
  have hk := (h.sz.k hwk).write hwk
  refine ⟨?_, hsd, h.st.trans hst, ?_, by have := wk_turn hwk; omega, by have := wk_left hwk; omega⟩
  ·rw [zerosW_snoc hmj]
   exact h.tr.app (.inl ⟨rfl, .ok h.sd.2.1 (by omega) (by rw [zer_size]; decide) hwk (.nil _)⟩)
  ·have q := hk.1.f
   rw [show max j ((j : Int).toNat + 1) = j + 1 by omega] at q
   exact q
 ·refine ⟨?_, hsd, h.st.trans hst⟩
  rw [zerosW_cut hmj hj]
  exact h.tr.app (.inl ⟨rfl, .bad h.sd.2.1 (by omega) (by rw [zer_size]; decide) hwk hz⟩)
theorem SD.fill (h : SD w b d s n K) (N : Nat) (hN : N ≤ 100000) (hm : SzF K s m) (hm2 : m ≤ 100000) (hs : s.size ≤ maxLen) (hl : K.left ≤ 9223372036854775807) (ht : K.turn + (N - m) < 8999) :
  Calls Tryz.prog 40 #[.pointer (some ⟨b, 0, none⟩), .int .i64 N] w fun e w2 => ∃ z K2, e = .returned (.int .i64 z) ∧ Did w b d s n K (zerosW (zer 256) m N) z w2 K2 ∧ (z = 0 → SzF K2 s (max m N) ∧ K2.turn ≤ K.turn + (N - m)) := by
 have HR : Hid (∀ W, Calls Tryz.prog 91 #[.string ⟨#[0]⟩, .int .i64 256] W fun e w' => e = .returned (.string (zer 256)) ∧ Below W.heap.size W w') := fun W => repeat_zer W 256 (by omega)
 have HZ : Hid (∀ W, SD W b d s n K → Calls Tryz.prog 23 #[.pointer (some ⟨b, 0, none⟩)] W fun e w' => e = .returned (.int .i64 m) ∧ Below W.heap.size W w') := fun W k => by
  have := k.size hs
  rw [show sizeF K.on s.size (getF K.files s.data.toList) = m from hm] at this
  exact this
 have HWr : Hid (∀ (j : Nat) (W : World) (K1 : Dk), m ≤ j → j < N → FillSt w b d s n K m j W K1 → Calls Tryz.prog 41 #[.pointer (some ⟨d, 0, none⟩), .string s, .int .i64 j, .string (zer 256)] W fun e w2 => ∃ z K2, e = .returned (.int .i64 z) ∧ SD w2 b d s n K2 ∧ (z = 0 → FillSt w b d s n K m (j + 1) w2 K2) ∧ (z ≠ 0 → Did w b d s n K (zerosW (zer 256) m N) z w2 K2)) :=
  fun j W K1 h1 h2 h3 => h3.write h1 h2 hs hl ht
 have HX : Hid (∀ W K', SD W b d s n K' → W.cell? ⟨b, 0, none⟩ = some (.pointer (some ⟨d, 0, none⟩)) ∧ W.cell? ⟨b, 1, none⟩ = some (.string s)) := fun _ _ k => k.cells
 have HS0 : Hid (∀ W, Below w.heap.size w W → FillSt w b d s n K m m W K) := fun W hb => ⟨by rw [zerosW_done (Nat.le_refl _)]; exact .nil K, h.below hb, Step.below h.2.1 hb, hm, by omega, by omega⟩
 have HE : Hid (∀ W K1, FillSt w b d s n K m (max m N) W K1 → Did w b d s n K (zerosW (zer 256) m N) 0 W K1 ∧ SzF K1 s (max m N) ∧ K1.turn ≤ K.turn + (N - m)) := fun W K1 k => ⟨⟨by have := k.tr; rw [zerosW_max] at this; exact this, k.sd, k.st⟩, k.sz, by have := k.turn; omega⟩
 clear h hm hl ht
 go_enter Tryz.func40, Tryz.ntmps40
 go_wp2_with (first
  | (go_at_call 91; (with_reducible refine (HR.out _).mono ?_); rintro e w1 ⟨rfl, hb⟩; have H1 := Lib.hid (HS0.out _ hb); clear hb)
  | (go_at_call 23; (with_reducible refine (HZ.out _ H1.out.sd).mono ?_); rintro e w2 ⟨rfl, hb⟩; have H2 := Lib.hid (H1.out.over hb); clear hb))
 clear HR HZ HS0
 go_loopw [6] (fun va wr => ∃ (j : Nat) (K1 : Dk), m ≤ j ∧ j ≤ max m N ∧ va = .int .i64 j ∧ Hid (FillSt w b d s n K m j wr K1)) (fun va _ => N - (RowKit.intOf va).toNat)
 case atStart => exact ⟨m, K, Nat.le_refl _, by omega, rfl, H2⟩
 case round =>
  clear H1 H2
  obtain ⟨j, K1, hmj, hj, rfl, H⟩ := hrel
  by_cases hlt : j < N
  ·have HW := Lib.hid (HWr.out j wr K1 hmj hlt H.out)
   have Hd := Lib.hid (H.out.over (Below.refl _ _).drew)
   have HWd := Lib.hid (HWr.out j _ K1 hmj hlt Hd.out)
   have j1 : (j : Int) < (N : Int) := by omega
   go_upto_region 5 with fail
   go_region_held3 (fun W' => W'.cell? ⟨b, 0, none⟩ = some (.pointer (some ⟨d, 0, none⟩)) ∧ W'.cell? ⟨b, 1, none⟩ = some (.string s)) (first | exact HX.out _ _ H.out.sd | exact HX.out _ _ Hd.out.sd | exact HX.out _ _ H4.out.1)
    ((go_at_call 41; (first | (with_reducible refine (HWd.out).mono ?_) | (with_reducible refine (HW.out).mono ?_)); rintro e w3 ⟨z, K2, rfl, h⟩; have H4 := Lib.hid h; clear h))
   all_goals
    by_cases hz : z = 0
    ·subst hz
     go_wp2
     go_roundw
     case rel => exact ⟨j + 1, K2, by omega, by omega, by go_num, H4.out.2.1 rfl⟩
     case measure => simp [RowKit.intOf]; omega
    ·have k2 : (z != 0) = true := by simp [hz]
     go_wp2
     go_ret
     exact ⟨z, K2, rfl, H4.out.2.2 hz, fun q => absurd q hz⟩
  ·have hjm : j = max m N := by omega
   have HE2 := Lib.hid (HE.out _ K1 (hjm ▸ H.out))
   have j1 : decide ((j : Int) < (N : Int)) = false := decide_eq_false (by omega)
   clear hlt H
   go_wp2
   go_ret
   exact ⟨0, K1, rfl, HE2.out.1, fun _ => HE2.out.2⟩
end
end Go.Proofs.YtbkngnjkaledlaaGreat.P8
namespace Go.Proofs.YtbkngnjkaledlaaGreat.P5
open Go Go.RowKit Go.Lib P0 P2
def Pg.same (p q : Pg) : Bool := (p.k == q.k) && (p.id == q.id) && (p.tx == q.tx) && (p.body.toList == q.body.toList)
theorem Pg.same_self (p : Pg) : p.same p = true := by
 unfold Pg.same
 rw [beq_self_eq_true, beq_self_eq_true, beq_self_eq_true, beq_self_eq_true]
 rfl
theorem Pg.same_eq {p q : Pg} (h : p.same q = true) : p = q := by
 obtain ⟨k, i, t, b⟩ := p
 obtain ⟨k', i', t', b'⟩ := q
 unfold Pg.same at h
 simp only [Bool.and_eq_true, beq_iff_eq] at h
 obtain ⟨⟨⟨h1, h2⟩, h3⟩, h4⟩ := h
 have h5 : b = b' := by
  by_cases e : b = b'
  ·exact e
  ·have := same_false e
   rw [h4] at this
   simp at this
 subst h1 h2 h3 h5
 rfl
theorem Pg.same_ne {p q : Pg} (h : p ≠ q) : p.same q = false := by
 cases e : p.same q
 ·rfl
 ·exact absurd (Pg.same_eq e) h
theorem stood : Tryz.prog.stoodInHeld 47 = false := by kernel_rfl
theorem page_desc : Tryz.prog.underlying 47 = some (.struct (Tryz.prog.fieldsOf 47)) := by
 unfold Program.fieldsOf
 rw [Tryz.underlying47]
theorem part_int (w : World) (cs : Array Value) (j : Nat) (v : Value) (h : cs[j]? = some v) : (part 3 cs j).run Tryz.prog w = .ok v w := by
 simp [part, Sem.run_bind, Tryz.isAgg3, h]
theorem part_str (w : World) (cs : Array Value) (j : Nat) (v : Value) (h : cs[j]? = some v) : (part 9 cs j).run Tryz.prog w = .ok v w := by
 simp [part, Sem.run_bind, Tryz.isAgg9, h]
theorem page_eql (w : World) (p q : Pg) : (binOp .eql 47 p.v q.v).run Tryz.prog w = .ok (.bool (p.same q)) w := by
 unfold Pg.v
 rw [run_eql_struct, run_equalIn_agg w 9999 _ _ _ page_desc stood]
 have ei : ∀ (w : World) (a b : Int), (Op.equalIn 9999 3 (.int .i64 a) (.int .i64 b)).run Tryz.prog w = .ok (a == b) w := fun w a b => run_equalIn_int w 9998 _ _ _ a b Tryz.underlying3
 have es : ∀ (w : World) (a b : ByteArray), (Op.equalIn 9999 9 (.string a) (.string b)).run Tryz.prog w = .ok (a.toList == b.toList) w := fun w a b => run_equalIn_string w 9998 _ a b Tryz.underlying9
 have q0 : ∀ (w : World) (a b c d : Value), (part 3 #[a, b, c, d] 0).run Tryz.prog w = .ok a w := fun w a b c d => part_int w _ 0 a rfl
 have q1 : ∀ (w : World) (a b c d : Value), (part 3 #[a, b, c, d] 1).run Tryz.prog w = .ok b w := fun w a b c d => part_int w _ 1 b rfl
 have q2 : ∀ (w : World) (a b c d : Value), (part 3 #[a, b, c, d] 2).run Tryz.prog w = .ok c w := fun w a b c d => part_int w _ 2 c rfl
 have q3 : ∀ (w : World) (a b c d : Value), (part 9 #[a, b, c, d] 3).run Tryz.prog w = .ok d w := fun w a b c d => part_str w _ 3 d rfl
 simp [Program.fieldsOf, Tryz.underlying47, Op.eqFields, q0, q1, q2, q3, ei, es]
 unfold Pg.same
 by_cases h1 : p.k = q.k <;> by_cases h2 : p.id = q.id <;> by_cases h3 : p.tx = q.tx <;> by_cases h4 : p.body.toList = q.body.toList <;> simp [h1, h2, h3, h4]
def laidB (p : Pg) : ByteArray := if p.ok then p.sector else ⟨#[]⟩
def laidE (p : Pg) : Int := if p.ok then 0 else 1
theorem lay_any (w : World) (p : Pg) :
  Calls Tryz.prog 85 #[p.v] w fun r w' => r = .returned (.tuple #[.string (laidB p), .int .i64 (laidE p)]) ∧ Below w.heap.size w w' := by
 unfold laidB laidE
 by_cases h : p.ok
 ·rw [if_pos h, if_pos h]; exact lay_ok w p h
 ·rw [if_neg h, if_neg h]; exact lay_bad w p h
end Go.Proofs.YtbkngnjkaledlaaGreat.P5
namespace Go.Proofs.YtbkngnjkaledlaaGreat.P8
open Go Go.RowKit Go.Lib Go.Maps Go.ChangeMaps Go.MapKept P3 P4
open P5 (Pg zer valid_any lay_any laidB laidE)
def PagesIn (w : World) (v : Value) (l : List Pg) : Prop :=
 ∃ a c, v = .slice a l.length c ∧ l.length ≤ 9223372036854775807 ∧ (0 < l.length → ∃ b off, a = some ⟨b, off, none⟩ ∧ b < w.heap.size ∧ ∀ (i : Nat) (p : Pg), l[i]? = some p → ∀ (j : Nat) (u : Value), p.cells.toList[j]? = some u → w.cell? ⟨b, off + i * 4 + j, none⟩ = some u)
def okPut (p : Pg) : Prop := p.ok ∧ p.k ≠ 1 ∧ 2 ≤ p.id
instance (p : Pg) : Decidable (okPut p) := by unfold okPut; infer_instance
def putW : Nat → List Pg → List (Int × ByteArray)
 | _, [] => []
 | m, p :: l => zerosW (zer 256) m p.id.toNat ++ (p.id, p.sector) :: putW (max (max m p.id.toNat) (p.id.toNat + 1)) l
theorem putW_drop {m i : Nat} {l : List Pg} {p : Pg} (h : l[i]? = some p) : putW m (l.drop i) = zerosW (zer 256) m p.id.toNat ++ (p.id, p.sector) :: putW (max (max m p.id.toNat) (p.id.toNat + 1)) (l.drop (i + 1)) := by
 obtain ⟨hi, he⟩ := List.getElem?_eq_some_iff.1 h
 rw [List.drop_eq_getElem_cons hi, he]
 rfl
theorem PagesIn.below {w w' : World} {v : Value} {l : List Pg} (h : PagesIn w v l) (hb : Below w.heap.size w w') : PagesIn w' v l := by
 obtain ⟨a, c, e, h1, h2⟩ := h
 refine ⟨a, c, e, h1, fun q => ?_⟩
 obtain ⟨b, off, e2, h3, h4⟩ := h2 q
 exact ⟨b, off, e2, Nat.lt_of_lt_of_le h3 hb.size, fun i p hp j u hj => (hb.cell (p := ⟨b, off + i * 4 + j, none⟩) h3).trans (h4 i p hp j u hj)⟩
theorem page_box (w : World) (p : Pg) : (w.alloc (.cells p.cells 47)).heap[w.heap.size]? = some (.cells p.cells 47 (0, 0)) := P3.new_at w _ _
theorem wrong_any (w : World) (p : Pg) : Calls Tryz.prog 34 #[p.v] w fun e w' => e = .returned (.bool (decide (¬ okPut p))) ∧ Below w.heap.size w w' := by
 have HV : Hid (∀ W, Calls Tryz.prog 84 #[.agg #[.int .i64 p.k, .int .i64 p.id, .int .i64 p.tx, .string p.body]] W fun e w' => e = .returned (.bool (decide p.ok)) ∧ Below W.heap.size W w') := fun W => valid_any W p
 have HB : Hid (∀ W, Below (w.alloc (.cells p.cells 47)).heap.size (w.alloc (.cells p.cells 47)) W → W.cell? ⟨w.heap.size, 0, none⟩ = some (.int .i64 p.k) ∧ W.cell? ⟨w.heap.size, 1, none⟩ = some (.int .i64 p.id) ∧ W.cell? ⟨w.heap.size, 2, none⟩ = some (.int .i64 p.tx) ∧ W.cell? ⟨w.heap.size, 3, none⟩ = some (.string p.body) ∧ Below w.heap.size w W) := fun W hb => by
  have h := P3.old_below (page_box w p) hb
  exact ⟨by rw [P3.cell_at h]; rfl, by rw [P3.cell_at h]; rfl, by rw [P3.cell_at h]; rfl, by rw [P3.cell_at h]; rfl, thenBelow (P3.below_new w _) hb⟩
 obtain ⟨c0, c1, c2, c3, _⟩ := HB.out _ (Below.refl _ _)
 show Calls Tryz.prog 34 #[.agg #[.int .i64 p.k, .int .i64 p.id, .int .i64 p.tx, .string p.body]] w _
 by_cases o1 : p.ok
 ·rw [decide_eq_true o1] at HV
  by_cases o2 : p.k = 1
  ·have k1 : (p.k == 1) = true := by simp [o2]
   have e : decide (¬ okPut p) = true := decide_eq_true (fun q => q.2.1 o2)
   rw [e]
   clear o1 o2 e
   go_enter Tryz.func34, Tryz.ntmps34
   go_wp2_with (go_at_call 84; (with_reducible refine (HV.out _).mono ?_); rintro e w3 ⟨rfl, hb3⟩; obtain ⟨d0, d1, _, _, hb4⟩ := HB.out _ hb3)
   go_ret
   exact ⟨rfl, hb4⟩
  ·have k1 : (p.k == 1) = false := beq_eq_false_iff_ne.2 o2
   by_cases o3 : p.id < 2
   ·have k2 : decide (p.id < 2) = true := decide_eq_true o3
    have e : decide (¬ okPut p) = true := decide_eq_true (fun q => by have := q.2.2; omega)
    rw [e]
    clear o1 o2 o3 e
    go_enter Tryz.func34, Tryz.ntmps34
    go_wp2_with (go_at_call 84; (with_reducible refine (HV.out _).mono ?_); rintro e w3 ⟨rfl, hb3⟩; obtain ⟨d0, d1, _, _, hb4⟩ := HB.out _ hb3)
    go_ret
    exact ⟨rfl, hb4⟩
   ·have k2 : decide (p.id < 2) = false := decide_eq_false o3
    have e : decide (¬ okPut p) = false := decide_eq_false (fun q => q ⟨o1, o2, by omega⟩)
    rw [e]
    clear o1 o2 o3 e
    go_enter Tryz.func34, Tryz.ntmps34
    go_wp2_with (go_at_call 84; (with_reducible refine (HV.out _).mono ?_); rintro e w3 ⟨rfl, hb3⟩; obtain ⟨d0, d1, _, _, hb4⟩ := HB.out _ hb3)
    go_ret
    exact ⟨rfl, hb4⟩
 ·rw [decide_eq_false o1] at HV
  have e : decide (¬ okPut p) = true := decide_eq_true (fun q => o1 q.1)
  rw [e]
  clear o1 e
  go_enter Tryz.func34, Tryz.ntmps34
  go_wp2_with (go_at_call 84; (with_reducible refine (HV.out _).mono ?_); rintro e w3 ⟨rfl, hb3⟩; obtain ⟨d0, d1, _, _, hb4⟩ := HB.out _ hb3)
  go_ret
  exact ⟨rfl, hb4⟩
theorem index_any {w : World} {v : Value} {l : List Pg} (hv : PagesIn w v l) :
  Calls Tryz.prog 83 #[v, .func (.func 34) #[] #[]] w fun e w' => ∃ i : Int, e = .returned (.int .i64 i) ∧ (0 ≤ i ↔ ¬ ∀ p ∈ l, okPut p) ∧ Below w.heap.size w w' := by
 obtain ⟨av, c, rfl, hl, hc⟩ := hv
 have HW := Lib.hid (fun W p => wrong_any W p)
 go_enter Tryz.func83, Tryz.ntmps83
 go_wp2
 go_loopw [8] (fun vi wr => ∃ i : Nat, i ≤ l.length ∧ vi = .int .i64 i ∧ Hid (Below w.heap.size w wr) ∧ Hid (∀ (j : Nat) (p : Pg), j < i → l[j]? = some p → okPut p)) (fun vi _ => l.length - (RowKit.intOf vi).toNat)
 case atStart => exact ⟨0, Nat.zero_le _, rfl, Below.refl _ _, fun _ _ q => absurd q (Nat.not_lt_zero _)⟩
 case round =>
  obtain ⟨i, hi, rfl, H, HO⟩ := hrel
  by_cases hlt : i < l.length
  ·obtain ⟨p, hp⟩ : ∃ p, l[i]? = some p := ⟨_, List.getElem?_eq_getElem hlt⟩
   obtain ⟨B, off, rfl, hbl, hcells⟩ := hc (by omega)
   have HX : Hid (∀ W', Below w.heap.size w W' → ∀ (j : Nat) (u : Value), p.cells.toList[j]? = some u → W'.cell? ⟨B, off + i * 4 + j, none⟩ = some u) := fun W' hb j u hj => by rw [hb.cell (p := ⟨B, off + i * 4 + j, none⟩) hbl]; exact hcells i p hp j u hj
   have q0 : wr.cell? ⟨B, off + i * 4, none⟩ = some (.int .i64 p.k) := HX.out _ H.out 0 _ rfl
   have q1 : wr.cell? ⟨B, off + i * 4 + 1, none⟩ = some (.int .i64 p.id) := HX.out _ H.out 1 _ rfl
   have q2 : wr.cell? ⟨B, off + i * 4 + 2, none⟩ = some (.int .i64 p.tx) := HX.out _ H.out 2 _ rfl
   have q3 : wr.cell? ⟨B, off + i * 4 + 3, none⟩ = some (.string p.body) := HX.out _ H.out 3 _ rfl
   have HP := Lib.hid hp
   by_cases ho : okPut p
   ·have HV : Hid (∀ W, Calls Tryz.prog 34 #[.agg #[.int .i64 p.k, .int .i64 p.id, .int .i64 p.tx, .string p.body]] W fun e w' => e = .returned (.bool false) ∧ Below W.heap.size W w') := fun W => by
     have q := HW.out W p
     rw [decide_eq_false (fun k => k ho)] at q
     exact q
    have hO : Hid (∀ (j : Nat) (q : Pg), j < i + 1 → l[j]? = some q → okPut q) := fun j q hj hq => by
     by_cases e : j = i
     ·subst e
      rw [HP.out] at hq
      obtain rfl : p = q := by simpa using hq
      exact ho
     ·exact HO.out j q (by omega) hq
    clear hc hcells hp ho HO
    go_wp2_with (go_at_call 34; (with_reducible refine (HV.out _).mono ?_); rintro e w3 ⟨rfl, hb3⟩; have H3 := Lib.hid (thenBelow H.out hb3); clear hb3)
    go_roundw
    case rel => exact ⟨i + 1, by omega, by go_num, H3, hO⟩
    case measure => simp [RowKit.intOf]; omega
   ·have HV : Hid (∀ W, Calls Tryz.prog 34 #[.agg #[.int .i64 p.k, .int .i64 p.id, .int .i64 p.tx, .string p.body]] W fun e w' => e = .returned (.bool true) ∧ Below W.heap.size W w') := fun W => by
     have q := HW.out W p
     rw [decide_eq_true ho] at q
     exact q
    have HE : Hid ((0 : Int) ≤ (i : Int) ↔ ¬ ∀ p ∈ l, okPut p) := ⟨fun _ q => ho (q p (List.mem_of_getElem? hp)), fun _ => by omega⟩
    clear hc hcells hp ho HO
    go_wp2_with (go_at_call 34; (with_reducible refine (HV.out _).mono ?_); rintro e w3 ⟨rfl, hb3⟩; have H3 := Lib.hid (thenBelow H.out hb3); clear hb3)
    go_ret
    exact ⟨i, rfl, HE.out, H3.out⟩
  ·have HE : Hid ((0 : Int) ≤ (-1 : Int) ↔ ¬ ∀ p ∈ l, okPut p) := ⟨fun q => absurd q (by decide), fun q => absurd (fun p hp => by
    obtain ⟨j, hj, he⟩ := List.mem_iff_getElem.1 hp
    exact HO.out j p (by omega) (by rw [List.getElem?_eq_getElem hj, he])) q⟩
   clear HO
   go_wp2
   go_ret
   exact ⟨-1, rfl, HE.out, H.out⟩
theorem contains_any {w : World} {v : Value} {l : List Pg} (hv : PagesIn w v l) (B : Bool) (hB : B = true ↔ ¬ ∀ p ∈ l, okPut p) :
  Calls Tryz.prog 33 #[v, .func (.func 34) #[] #[]] w fun e w' => e = .returned (.bool B) ∧ Below w.heap.size w w' := by
 have HI := Lib.hid (index_any hv)
 have HB : Hid (∀ i : Int, (0 ≤ i ↔ ¬ ∀ p ∈ l, okPut p) → decide (0 ≤ i) = B) := fun i hi => by
  cases B with
  | true => exact decide_eq_true (hi.2 (hB.1 rfl))
  | false => exact decide_eq_false (fun q => by have := hB.2 (hi.1 q); cases this)
 clear hB hv
 go_enter Tryz.func33, Tryz.ntmps33
 go_wp2_with (go_at_call 83; (with_reducible refine (HI.out).mono ?_); rintro e w3 ⟨i, rfl, hi, hb3⟩; have hq := HB.out i hi; clear hi)
 go_ret
 subst hq
 exact ⟨rfl, hb3⟩
end Go.Proofs.YtbkngnjkaledlaaGreat.P8
namespace Go.Proofs.YtbkngnjkaledlaaGreat.P8
open Go Go.RowKit Go.Lib Go.Maps Go.ChangeMaps Go.MapKept P3 P4
open P5 (Pg zer rValid_any rLay_ok)
section
variable {a W W' : World} {b r d : Nat} {s : ByteArray} {D : RM} {K K2 : Dk} {ks : List Int} {z : Int}
theorem Run.put {W0 : World} {D0 : RM} {m : Nat} {v : Value} {l : List Pg} (hv : PagesIn a v l) (hok : ∀ p ∈ l, okPut p) (hm : m ≤ 5000) (h : Run a W0 W b r d s D0 D ks K m 0 (putW m l) z K2) :
  Calls Tryz.prog 10 #[.pointer (some ⟨b, 0, none⟩), v] W fun e w2 => ∃ y D1 K1 m1, e = .returned (.int .i64 y) ∧ Run a W0 w2 b r d s D0 D1 ks K1 m1 y [] z K2 := by
 obtain ⟨av, c, rfl, hl, hc⟩ := hv
 have H := Lib.hid h
 have HC : Hid (∀ W' D' K' m' e' l', Run a W0 W' b r d s D0 D' ks K' m' e' l' z K2 → W'.cell? ⟨b, 0, none⟩ = some (.pointer (some ⟨r, 0, none⟩)) ∧ W'.cell? ⟨b, 1, none⟩ = some (.string s)) := fun _ _ _ _ _ _ k => k.1.cells
 have HB : Hid (∀ W' D' K' m' e' l', Run a W0 W' b r d s D0 D' ks K' m' e' l' z K2 → Below a.heap.size a W') := fun _ _ _ _ _ _ k => k.1.below
 clear h
 go_enter Tryz.func10, Tryz.ntmps10
 go_wp2
 go_loopw [5] (fun vi wr => ∃ i : Nat, i ≤ l.length ∧ vi = .int .i64 i ∧ Hid (Run a W0 wr b r d s D0 D ks K m 0 (putW m l) z K2)) (fun vi _ => l.length - (RowKit.intOf vi).toNat)
 case atStart => exact ⟨0, Nat.zero_le _, rfl, H⟩
 case round =>
  clear H
  obtain ⟨i, hi, rfl, H⟩ := hrel
  by_cases hlt : i < l.length
  ·obtain ⟨p, hp⟩ : ∃ p, l[i]? = some p := ⟨_, List.getElem?_eq_getElem hlt⟩
   obtain ⟨o1, o2, o3⟩ := hok p (List.mem_of_getElem? hp)
   obtain ⟨B, off, rfl, hbl, hcells⟩ := hc (by omega)
   have HX : Hid (∀ W', Below a.heap.size a W' → ∀ (j : Nat) (u : Value), p.cells.toList[j]? = some u → W'.cell? ⟨B, off + i * 4 + j, none⟩ = some u) := fun W' hb j u hj => by rw [hb.cell (p := ⟨B, off + i * 4 + j, none⟩) hbl]; exact hcells i p hp j u hj
   have HV : Hid (∀ W', Calls Tryz.prog 28 #[.agg #[.int .i64 p.k, .int .i64 p.id, .int .i64 p.tx, .string p.body]] W' fun e w' => e = .returned (.bool true) ∧ Below W'.heap.size W' w') := fun W' => by
    have q := rValid_any W' p
    rw [decide_eq_true o1] at q
    exact q
   have q0 : wr.cell? ⟨B, off + i * 4, none⟩ = some (.int .i64 p.k) := HX.out _ (HB.out _ _ _ _ _ _ H.out) 0 _ rfl
   have q1 : wr.cell? ⟨B, off + i * 4 + 1, none⟩ = some (.int .i64 p.id) := HX.out _ (HB.out _ _ _ _ _ _ H.out) 1 _ rfl
   have q2 : wr.cell? ⟨B, off + i * 4 + 2, none⟩ = some (.int .i64 p.tx) := HX.out _ (HB.out _ _ _ _ _ _ H.out) 2 _ rfl
   have q3 : wr.cell? ⟨B, off + i * 4 + 3, none⟩ = some (.string p.body) := HX.out _ (HB.out _ _ _ _ _ _ H.out) 3 _ rfl
   have k1 : (p.k == 1) = false := beq_eq_false_iff_ne.2 o2
   have k2 : decide (p.id < 2) = false := decide_eq_false (by omega)
   clear hc hcells o1 o2 o3 hp
   go_wp2_with (go_at_call 28; (with_reducible refine (HV.out _).mono ?_); rintro e w3 ⟨rfl, hb3⟩; have H3 := Lib.hid (H.out.over hb3); have s0 : w3.cell? ⟨B, off + i * 4, none⟩ = some (.int .i64 p.k) := HX.out _ (HB.out _ _ _ _ _ _ H3.out) 0 _ rfl; have s1 : w3.cell? ⟨B, off + i * 4 + 1, none⟩ = some (.int .i64 p.id) := HX.out _ (HB.out _ _ _ _ _ _ H3.out) 1 _ rfl; clear hb3)
   go_roundw
   case rel => exact ⟨i + 1, by omega, by go_num, H3⟩
   case measure => simp [RowKit.intOf]; omega
  ·go_wp2
   clear hlt hi
   go_loopw [6] (fun vi wr => ∃ (i m1 : Nat) (D1 : RM) (K1 : Dk), i ≤ l.length ∧ m1 ≤ 5000 ∧ vi = .int .i64 i ∧ Hid (Run a W0 wr b r d s D0 D1 ks K1 m1 0 (putW m1 (l.drop i)) z K2)) (fun vi _ => l.length - (RowKit.intOf vi).toNat)
   case atStart => exact ⟨0, m, D, K, Nat.zero_le _, hm, rfl, H⟩
   case round =>
    clear H
    obtain ⟨i, m1, D1, K1, hi, hm1, rfl, H⟩ := hrel
    by_cases hlt : i < l.length
    ·obtain ⟨p, hp⟩ : ∃ p, l[i]? = some p := ⟨_, List.getElem?_eq_getElem hlt⟩
     obtain ⟨o1, o2, o3⟩ := hok p (List.mem_of_getElem? hp)
     obtain ⟨B, off, rfl, hbl, hcells⟩ := hc (by omega)
     obtain ⟨n, hn⟩ : ∃ n : Nat, p.id = n := ⟨p.id.toNat, by omega⟩
     have hn4 : n < 4000 := by have := o1.2.2.2.1; omega
     have HX : Hid (∀ W', Below a.heap.size a W' → ∀ (j : Nat) (u : Value), p.cells.toList[j]? = some u → W'.cell? ⟨B, off + i * 4 + j, none⟩ = some u) := fun W' hb j u hj => by rw [hb.cell (p := ⟨B, off + i * 4 + j, none⟩) hbl]; exact hcells i p hp j u hj
     have HA : Hid (∀ W' D' K' m' e' l', Run a W0 W' b r d s D0 D' ks K' m' e' l' z K2 → W'.cell? ⟨b, 0, none⟩ = some (.pointer (some ⟨r, 0, none⟩)) ∧ W'.cell? ⟨b, 1, none⟩ = some (.string s) ∧ W'.cell? ⟨B, off + i * 4, none⟩ = some (.int .i64 p.k) ∧ W'.cell? ⟨B, off + i * 4 + 1, none⟩ = some (.int .i64 n) ∧ W'.cell? ⟨B, off + i * 4 + 2, none⟩ = some (.int .i64 p.tx) ∧ W'.cell? ⟨B, off + i * 4 + 3, none⟩ = some (.string p.body)) := fun _ _ _ _ _ _ k =>
      ⟨k.1.cells.1, k.1.cells.2, HX.out _ k.1.below 0 _ rfl, by rw [← hn]; exact HX.out _ k.1.below 1 _ rfl, HX.out _ k.1.below 2 _ rfl, HX.out _ k.1.below 3 _ rfl⟩
     have HL : Hid (∀ W', Calls Tryz.prog 38 #[.agg #[.int .i64 p.k, .int .i64 n, .int .i64 p.tx, .string p.body]] W' fun e w' => e = .returned (.string p.sector) ∧ Below W'.heap.size W' w') := fun W' => by rw [← hn]; exact rLay_ok W' p o1
     obtain ⟨S, hS⟩ : ∃ S, S = p.sector := ⟨_, rfl⟩
     have hR := H.out
     rw [putW_drop hp, hn, Int.toNat_natCast, ← hS] at hR
     rw [← hS] at HL
     have HF := Lib.hid (hR.fill n m1 (by omega) (by omega))
     have q1 : wr.cell? ⟨B, off + i * 4 + 1, none⟩ = some (.int .i64 n) := (HA.out _ _ _ _ _ _ hR).2.2.2.1
     have hmm : max (max m1 n) ((n : Int).toNat + 1) ≤ 5000 := by omega
     obtain ⟨m2, hm2⟩ : ∃ q, q = max (max m1 n) ((n : Int).toNat + 1) := ⟨_, rfl⟩
     rw [show max (max m1 n) (n + 1) = m2 by omega] at HF
     rw [← hm2] at hmm
     have HM := Lib.hid hm2
     clear hc hcells o1 o2 o3 hp hR H hm2 hS HX hok hn
     go_upto_region 10 with (go_at_call 36; (with_reducible refine (HF.out).mono ?_); rintro e w2 ⟨y, D2, K3, rfl, h⟩; have H2 := Lib.hid h; clear h)
     clear HF
     by_cases hy : y = 0
     ·subst hy
      have H2d := Lib.hid (H2.out.over (Below.refl _ _).drew)
      go_upto_region 12 with fail
      go_region_held3 (fun W' => W'.cell? ⟨b, 0, none⟩ = some (.pointer (some ⟨r, 0, none⟩)) ∧ W'.cell? ⟨b, 1, none⟩ = some (.string s) ∧ W'.cell? ⟨B, off + i * 4, none⟩ = some (.int .i64 p.k) ∧ W'.cell? ⟨B, off + i * 4 + 1, none⟩ = some (.int .i64 n) ∧ W'.cell? ⟨B, off + i * 4 + 2, none⟩ = some (.int .i64 p.tx) ∧ W'.cell? ⟨B, off + i * 4 + 3, none⟩ = some (.string p.body)) (first | exact HA.out _ _ _ _ _ _ H2.out | exact HA.out _ _ _ _ _ _ H2d.out | exact HA.out _ _ _ _ _ _ H3.out | exact HA.out _ _ _ _ _ _ H4.out) ((first
       | (go_at_call 38; (with_reducible refine (HL.out _).mono ?_); rintro e w3 ⟨rfl, hb⟩; have H3 := Lib.hid (show Run a W0 w3 b r d s D0 D2 ks K3 (max m1 n) 0 (((n : Int), S) :: putW m2 (l.drop (i + 1))) z K2 from (by first | exact H2d.out.over hb | exact H2.out.over hb)); clear hb)
       | (go_at_call 37; (with_reducible refine (H3.out.write).mono ?_); rintro e w4 ⟨y2, D3, K4, rfl, h⟩; rw [← HM.out] at h; have H4 := Lib.hid h; clear h)))
      all_goals
       by_cases hy2 : y2 = 0
       ·subst hy2
        go_wp2
        go_roundw
        case rel => exact ⟨i + 1, m2, D3, K4, by omega, hmm, by go_num, H4⟩
        case measure => simp [RowKit.intOf]; omega
       ·have k2 : (y2 != 0) = true := by simp [hy2]
        go_wp2
        go_ret
        exact ⟨y2, D3, K4, m2, rfl, H4.out.any hy2⟩
     ·have k2 : (y != 0) = true := by simp [hy]
      go_wp2
      go_ret
      exact ⟨y, D2, K3, 0, rfl, H2.out.any hy⟩
    ·have hR := H.out
     rw [List.drop_eq_nil_of_le (by omega)] at hR
     have HR := Lib.hid hR
     clear hR H
     go_wp2
     go_ret
     exact ⟨0, D1, K1, m1, rfl, HR.out⟩
end
end Go.Proofs.YtbkngnjkaledlaaGreat.P8
namespace Go.Proofs.YtbkngnjkaledlaaGreat.P8
open Go Go.RowKit Go.Lib Go.Maps Go.ChangeMaps Go.MapKept P3 P4
open P5 (Pg rValid_any)
theorem put_bad {a W : World} {b : Nat} {v : Value} {l : List Pg} (hv : PagesIn a v l) (hb0 : Below a.heap.size a W) (hbad : ¬ ∀ p ∈ l, okPut p) :
  Calls Tryz.prog 10 #[.pointer (some ⟨b, 0, none⟩), v] W fun e w2 => e = .returned (.int .i64 1) ∧ Below W.heap.size W w2 := by
 obtain ⟨av, c, rfl, hl, hc⟩ := hv
 have H0 := Lib.hid hb0
 have HN := Lib.hid hbad
 clear hb0 hbad
 go_enter Tryz.func10, Tryz.ntmps10
 go_wp2
 go_loopw [5] (fun vi wr => ∃ i : Nat, i ≤ l.length ∧ vi = .int .i64 i ∧ Hid (Below W.heap.size W wr) ∧ Hid (∀ (j : Nat) (p : Pg), j < i → l[j]? = some p → okPut p)) (fun vi _ => l.length - (RowKit.intOf vi).toNat)
 case atStart => exact ⟨0, Nat.zero_le _, rfl, Below.refl _ _, fun _ _ q => absurd q (Nat.not_lt_zero _)⟩
 case round =>
  obtain ⟨i, hi, rfl, H, HO⟩ := hrel
  by_cases hlt : i < l.length
  ·obtain ⟨p, hp⟩ : ∃ p, l[i]? = some p := ⟨_, List.getElem?_eq_getElem hlt⟩
   obtain ⟨B, off, rfl, hbl, hcells⟩ := hc (by omega)
   have HX : Hid (∀ W', Below W.heap.size W W' → ∀ (j : Nat) (u : Value), p.cells.toList[j]? = some u → W'.cell? ⟨B, off + i * 4 + j, none⟩ = some u) := fun W' hb j u hj => by rw [(thenBelow H0.out hb).cell (p := ⟨B, off + i * 4 + j, none⟩) hbl]; exact hcells i p hp j u hj
   have HV : Hid (∀ W', Calls Tryz.prog 28 #[.agg #[.int .i64 p.k, .int .i64 p.id, .int .i64 p.tx, .string p.body]] W' fun e w' => e = .returned (.bool (decide p.ok)) ∧ Below W'.heap.size W' w') := fun W' => rValid_any W' p
   have q0 : wr.cell? ⟨B, off + i * 4, none⟩ = some (.int .i64 p.k) := HX.out _ H.out 0 _ rfl
   have q1 : wr.cell? ⟨B, off + i * 4 + 1, none⟩ = some (.int .i64 p.id) := HX.out _ H.out 1 _ rfl
   have q2 : wr.cell? ⟨B, off + i * 4 + 2, none⟩ = some (.int .i64 p.tx) := HX.out _ H.out 2 _ rfl
   have q3 : wr.cell? ⟨B, off + i * 4 + 3, none⟩ = some (.string p.body) := HX.out _ H.out 3 _ rfl
   have HP := Lib.hid hp
   clear hc hcells hp
   by_cases o1 : p.ok
   ·rw [decide_eq_true o1] at HV
    by_cases o2 : p.k = 1
    ·have k1 : (p.k == 1) = true := by simp [o2]
     clear o2
     go_wp2_with (go_at_call 28; (with_reducible refine (HV.out _).mono ?_); rintro e w3 ⟨rfl, hb3⟩; have H3 := Lib.hid (thenBelow H.out hb3); have s0 : w3.cell? ⟨B, off + i * 4, none⟩ = some (.int .i64 p.k) := HX.out _ H3.out 0 _ rfl; have s1 : w3.cell? ⟨B, off + i * 4 + 1, none⟩ = some (.int .i64 p.id) := HX.out _ H3.out 1 _ rfl; clear hb3)
     go_ret
     exact ⟨rfl, H3.out⟩
    ·have k1 : (p.k == 1) = false := beq_eq_false_iff_ne.2 o2
     by_cases o3 : p.id < 2
     ·have k2 : decide (p.id < 2) = true := decide_eq_true o3
      go_wp2_with (go_at_call 28; (with_reducible refine (HV.out _).mono ?_); rintro e w3 ⟨rfl, hb3⟩; have H3 := Lib.hid (thenBelow H.out hb3); have s0 : w3.cell? ⟨B, off + i * 4, none⟩ = some (.int .i64 p.k) := HX.out _ H3.out 0 _ rfl; have s1 : w3.cell? ⟨B, off + i * 4 + 1, none⟩ = some (.int .i64 p.id) := HX.out _ H3.out 1 _ rfl; clear hb3)
      go_ret
      exact ⟨rfl, H3.out⟩
     ·have k2 : decide (p.id < 2) = false := decide_eq_false o3
      have hO : Hid (∀ (j : Nat) (q : Pg), j < i + 1 → l[j]? = some q → okPut q) := fun j q hj hq => by
       by_cases e : j = i
       ·subst e
        rw [HP.out] at hq
        obtain rfl : p = q := by simpa using hq
        exact ⟨o1, o2, by omega⟩
       ·exact HO.out j q (by omega) hq
      clear o1 o2 o3 HO
      go_wp2_with (go_at_call 28; (with_reducible refine (HV.out _).mono ?_); rintro e w3 ⟨rfl, hb3⟩; have H3 := Lib.hid (thenBelow H.out hb3); have s0 : w3.cell? ⟨B, off + i * 4, none⟩ = some (.int .i64 p.k) := HX.out _ H3.out 0 _ rfl; have s1 : w3.cell? ⟨B, off + i * 4 + 1, none⟩ = some (.int .i64 p.id) := HX.out _ H3.out 1 _ rfl; clear hb3)
      go_roundw
      case rel => exact ⟨i + 1, by omega, by go_num, H3, hO⟩
      case measure => simp [RowKit.intOf]; omega
   ·rw [decide_eq_false o1] at HV
    go_wp2_with (go_at_call 28; (with_reducible refine (HV.out _).mono ?_); rintro e w3 ⟨rfl, hb3⟩; have H3 := Lib.hid (thenBelow H.out hb3); have s0 : w3.cell? ⟨B, off + i * 4, none⟩ = some (.int .i64 p.k) := HX.out _ H3.out 0 _ rfl; have s1 : w3.cell? ⟨B, off + i * 4 + 1, none⟩ = some (.int .i64 p.id) := HX.out _ H3.out 1 _ rfl; clear hb3)
    go_ret
    exact ⟨rfl, H3.out⟩
  ·exact absurd (fun p hp => by
    obtain ⟨j, hj, he⟩ := List.mem_iff_getElem.1 hp
    exact HO.out j p (by omega) (by rw [List.getElem?_eq_getElem hj, he])) HN.out
end Go.Proofs.YtbkngnjkaledlaaGreat.P8
