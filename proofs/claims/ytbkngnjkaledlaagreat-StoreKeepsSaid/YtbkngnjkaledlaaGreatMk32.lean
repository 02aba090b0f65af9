/-
  Texts of the proof of SaidKeeps8, side by side: St2, Pg9.
-/
import Derived.Test.YtbkngnjkaledlaaGreatMk22
import Derived.Test.YtbkngnjkaledlaaGreatMk24
import Derived.Test.YtbkngnjkaledlaaGreatMk31
import Derived.Laws.IdiomStrings
/-
  Package store: fill, up to the first error. (Store, part 2.)
-/
namespace Go.Proofs.YtbkngnjkaledlaaGreat.P8
open Go Go.RowKit Go.Lib Go.Maps Go.ChangeMaps Go.MapKept Go.Proofs.YtbkngnjkaledlaaGreat.P3 Go.Proofs.YtbkngnjkaledlaaGreat.P4
open Go.Proofs.YtbkngnjkaledlaaGreat.P5 (zer repeat_zer zer_size)

section
variable {w w' w1 : World} {b d m : Nat} {s data : ByteArray} {i z : Int} {n : Int} {K K1 K2 : Dk} {l : List (Int × ByteArray)}
/-- the file has m sectors, as Size tells it -/
def SzF (K : Dk) (s : ByteArray) (m : Nat) : Prop := sizeF K.on s.size (getF K.files s.data.toList) = m
theorem SzK.f (h : SzK K s m) : SzF K s m := by
  obtain ⟨h1, h2, h3⟩ := h
  unfold SzF sizeF
  rw [if_pos h2, ← h3]
  unfold sizeN
  cases getF K.files s.data.toList <;> rfl
theorem wk_ok (h : WK d K s i data 0 K1 w1) : P4.writeE K s i data.size = 0 := by
  rcases h with ⟨q1, q2, _⟩ | ⟨_, _, q, _⟩ | ⟨q1, _⟩
  · exact absurd q2.symm q1
  · exact absurd q (by decide)
  · exact q1
theorem write_on {k : Nat} (h : P4.writeE K s i k = 0) : errn K.on s.size = 0 := by
  unfold P4.writeE at h
  by_cases e : errn K.on s.size = 0
  · exact e
  · rw [if_pos e] at h; exact h
theorem SzF.k (h : SzF K s m) (hw : WK d K s i data 0 K1 w1) : SzK K s m := by
  have e := write_on (wk_ok hw)
  refine ⟨errn_on e, e, ?_⟩
  unfold SzF sizeF at h
  rw [if_pos e] at h
  rw [← h]
  unfold sizeN
  cases getF K.files s.data.toList <;> rfl
theorem wk_turn (h : WK d K s i data z K1 w1) : K1.turn ≤ K.turn + 1 := by
  rcases h with ⟨_, _, rfl⟩ | ⟨_, _, _, w0, K0, n, _, hw, hc⟩ | ⟨_, _, _, K0, hw, rfl⟩
  · exact Nat.le_succ _
  · rw [hc.eq]; show K0.turn ≤ _; rw [hw.same]; exact Nat.le_refl _
  · have e : (counted K0).turn = K0.turn := by unfold counted; split <;> rfl
    rw [e, hw.same]; exact Nat.le_refl _
theorem wk_left (h : WK d K s i data z K1 w1) : K1.left ≤ max K.left 0 := by
  rcases h with ⟨_, _, rfl⟩ | ⟨_, _, _, w0, K0, n, _, hw, hc⟩ | ⟨_, _, _, K0, hw, rfl⟩
  · omega
  · rw [hc.eq]; show (0 : Int) ≤ _; omega
  · have e : (counted K0).left ≤ K0.left := by
      unfold counted
      split
      · show K0.left - 1 ≤ _; omega
      · omega
    have e2 : K0.left = K.left := by rw [hw.same]
    omega
theorem WTr.turn (h : WTr d s K l z K2) : K2.turn ≤ K.turn + l.length := by
  induction h with
  | nil K => exact Nat.le_refl _
  | ok hK ht hdm hw rest ih => have := wk_turn hw; simp only [List.length_cons]; omega
  | bad hK ht hdm hw hz => have := wk_turn hw; simp only [List.length_cons]; omega
theorem WTr.left (h : WTr d s K l z K2) : K2.left ≤ max K.left 0 := by
  induction h with
  | nil K => omega
  | ok hK ht hdm hw rest ih => have := wk_left hw; omega
  | bad hK ht hdm hw hz => exact wk_left hw
theorem zerosW_len (zs : ByteArray) (n m : Nat) : (zerosW zs n m).length = m - n := by simp [zerosW]
theorem zerosW_snoc {zs : ByteArray} {n m : Nat} (h : n ≤ m) : zerosW zs n (m + 1) = zerosW zs n m ++ [((m : Int), zs)] := by
  unfold zerosW
  rw [show m + 1 - n = (m - n) + 1 by omega, List.range_succ, List.map_append, List.map_cons, List.map_nil, show n + (m - n) = m by omega]
theorem zerosW_max (zs : ByteArray) (n m : Nat) : zerosW zs n (max n m) = zerosW zs n m := by
  by_cases h : m ≤ n
  · rw [zerosW_done h, zerosW_done (by omega)]
  · rw [Nat.max_eq_right (by omega)]
theorem zerosW_cut {zs : ByteArray} {n j m : Nat} (h1 : n ≤ j) (h2 : j < m) : zerosW zs n m = zerosW zs n j ++ ((j : Int), zs) :: zerosW zs (j + 1) m := by
  obtain ⟨q, rfl⟩ : ∃ q, m = j + 1 + q := ⟨m - (j + 1), by omega⟩
  clear h2
  induction q with
  | zero => rw [Nat.add_zero, zerosW_snoc h1, zerosW_done (n := j + 1) (Nat.le_refl _)]
  | succ q ih => rw [← Nat.add_assoc, zerosW_snoc (by omega), ih, zerosW_snoc (by omega), List.append_assoc, List.cons_append]
/-- the loop's state: j sectors are there -/
structure FillSt (w : World) (b d : Nat) (s : ByteArray) (n : Int) (K : Dk) (m j : Nat) (wr : World) (K1 : Dk) : Prop where
  tr : WTr d s K (zerosW (zer 256) m j) 0 K1
  sd : SD wr b d s n K1
  st : Step w d K wr K1
  sz : SzF K1 s j
  turn : K1.turn ≤ K.turn + (j - m)
  left : K1.left ≤ max K.left 0
theorem FillSt.over {W W' : World} {j : Nat} (h : FillSt w b d s n K m j W K1) (hb : Below W.heap.size W W') : FillSt w b d s n K m j W' K1 :=
  ⟨h.tr, h.sd.below hb, h.st.trans (Step.below h.sd.2.1 hb), h.sz, h.turn, h.left⟩
/-- what a call that writes leaves -/
structure Did (w : World) (b d : Nat) (s : ByteArray) (n : Int) (K : Dk) (l : List (Int × ByteArray)) (z : Int) (W : World) (K2 : Dk) : Prop where
  tr : WTr d s K l z K2
  sd : SD W b d s n K2
  st : Step w d K W K2
theorem Did.over {W W' : World} (h : Did w b d s n K l z W K2) (hb : Below W.heap.size W W') : Did w b d s n K l z W' K2 :=
  ⟨h.tr, h.sd.below hb, h.st.trans (Step.below h.sd.2.1 hb)⟩
/-- one write more -/
theorem FillSt.write {W : World} {j N : Nat} (h : FillSt w b d s n K m j W K1) (hmj : m ≤ j) (hj : j < N) (hs : s.size ≤ maxLen) (hl : K.left ≤ 9223372036854775807) (ht : K.turn + (N - m) < 8999) :
    Calls Tryz.prog 41 #[.pointer (some ⟨d, 0, none⟩), .string s, .int .i64 j, .string (zer 256)] W fun e w2 => ∃ z K2, e = .returned (.int .i64 z) ∧ SD w2 b d s n K2 ∧ (z = 0 → FillSt w b d s n K m (j + 1) w2 K2) ∧ (z ≠ 0 → Did w b d s n K (zerosW (zer 256) m N) z w2 K2) := by
  have hleft := h.left
  have hturn := h.turn
  refine (h.sd.2.1.writeK (by omega) (by omega) s j (zer 256) hs).mono ?_
  rintro e w2 ⟨z, K2, rfl, hst, hwk⟩
  have hsd := h.sd.step hst
  refine ⟨z, K2, rfl, hsd, fun hz => ?_, fun hz => ?_⟩
  · subst hz
    have hk := (h.sz.k hwk).write hwk
    refine ⟨?_, hsd, h.st.trans hst, ?_, by have := wk_turn hwk; omega, by have := wk_left hwk; omega⟩
    · rw [zerosW_snoc hmj]
      exact h.tr.app (.inl ⟨rfl, .ok h.sd.2.1 (by omega) (by rw [zer_size]; decide) hwk (.nil _)⟩)
    · have q := hk.1.f
      rw [show max j ((j : Int).toNat + 1) = j + 1 by omega] at q
      exact q
  · refine ⟨?_, hsd, h.st.trans hst⟩
    rw [zerosW_cut hmj hj]
    exact h.tr.app (.inl ⟨rfl, .bad h.sd.2.1 (by omega) (by rw [zer_size]; decide) hwk hz⟩)
set_option maxRecDepth 100000 in
set_option maxHeartbeats 2000000 in
theorem SD.fill (h : SD w b d s n K) (N : Nat) (hN : N ≤ 100000) (hm : SzF K s m) (hm2 : m ≤ 100000) (hs : s.size ≤ maxLen) (hl : K.left ≤ 9223372036854775807) (ht : K.turn + (N - m) < 8999) :
    Calls Tryz.prog 40 #[.pointer (some ⟨b, 0, none⟩), .int .i64 N] w fun e w2 => ∃ z K2, e = .returned (.int .i64 z) ∧ Did w b d s n K (zerosW (zer 256) m N) z w2 K2 ∧ (z = 0 → SzF K2 s (max m N) ∧ K2.turn ≤ K.turn + (N - m)) := by
  have HR : Hid (∀ W, Calls Tryz.prog 91 #[.string ⟨#[0]⟩, .int .i64 256] W fun e w' => e = .returned (.string (zer 256)) ∧ Below W.heap.size W w') := fun W => repeat_zer W 256 (by omega)
  have HZ : Hid (∀ W, SD W b d s n K → Calls Tryz.prog 23 #[.pointer (some ⟨b, 0, none⟩)] W fun e w' => e = .returned (.int .i64 m) ∧ Below W.heap.size W w') := fun W k => by
    have := k.size hs
    rw [show sizeF K.on s.size (getF K.files s.data.toList) = m from hm] at this
    exact this
  have HWr : Hid (∀ (j : Nat) (W : World) (K1 : Dk), m ≤ j → j < N → FillSt w b d s n K m j W K1 → Calls Tryz.prog 41 #[.pointer (some ⟨d, 0, none⟩), .string s, .int .i64 j, .string (zer 256)] W fun e w2 => ∃ z K2, e = .returned (.int .i64 z) ∧ SD w2 b d s n K2 ∧ (z = 0 → FillSt w b d s n K m (j + 1) w2 K2) ∧ (z ≠ 0 → Did w b d s n K (zerosW (zer 256) m N) z w2 K2)) :=
    fun j W K1 h1 h2 h3 => h3.write h1 h2 hs hl ht
  have HX : Hid (∀ W K', SD W b d s n K' → W.cell? ⟨b, 0, none⟩ = some (.pointer (some ⟨d, 0, none⟩)) ∧ W.cell? ⟨b, 1, none⟩ = some (.string s)) := fun _ _ k => k.cells
  have HS0 : Hid (∀ W, Below w.heap.size w W → FillSt w b d s n K m m W K) := fun W hb => ⟨by rw [zerosW_done (Nat.le_refl _)]; exact .nil K, h.below hb, Step.below h.2.1 hb, hm, by omega, by omega⟩
  have HE : Hid (∀ W K1, FillSt w b d s n K m (max m N) W K1 → Did w b d s n K (zerosW (zer 256) m N) 0 W K1 ∧ SzF K1 s (max m N) ∧ K1.turn ≤ K.turn + (N - m)) := fun W K1 k => ⟨⟨by have := k.tr; rw [zerosW_max] at this; exact this, k.sd, k.st⟩, k.sz, by have := k.turn; omega⟩
  clear h hm hl ht
  go_enter Tryz.func40, Tryz.ntmps40
  go_wp2_with (first
    | (go_at_call 91; (with_reducible refine (HR.out _).mono ?_); rintro e w1 ⟨rfl, hb⟩; have H1 := Lib.hid (HS0.out _ hb); clear hb)
    | (go_at_call 23; (with_reducible refine (HZ.out _ H1.out.sd).mono ?_); rintro e w2 ⟨rfl, hb⟩; have H2 := Lib.hid (H1.out.over hb); clear hb))
  clear HR HZ HS0
  go_loopw [6] (fun va wr => ∃ (j : Nat) (K1 : Dk), m ≤ j ∧ j ≤ max m N ∧ va = .int .i64 j ∧ Hid (FillSt w b d s n K m j wr K1)) (fun va _ => N - (RowKit.intOf va).toNat)
  case atStart => exact ⟨m, K, Nat.le_refl _, by omega, rfl, H2⟩
  case round =>
    clear H1 H2
    obtain ⟨j, K1, hmj, hj, rfl, H⟩ := hrel
    by_cases hlt : j < N
    · have HW := Lib.hid (HWr.out j wr K1 hmj hlt H.out)
      have Hd := Lib.hid (H.out.over (Below.refl _ _).drew)
      have HWd := Lib.hid (HWr.out j _ K1 hmj hlt Hd.out)
      have j1 : (j : Int) < (N : Int) := by omega
      go_upto_region 5 with fail
      go_region_held3 (fun W' => W'.cell? ⟨b, 0, none⟩ = some (.pointer (some ⟨d, 0, none⟩)) ∧ W'.cell? ⟨b, 1, none⟩ = some (.string s)) (first | exact HX.out _ _ H.out.sd | exact HX.out _ _ Hd.out.sd | exact HX.out _ _ H4.out.1)
        ((go_at_call 41; (first | (with_reducible refine (HWd.out).mono ?_) | (with_reducible refine (HW.out).mono ?_)); rintro e w3 ⟨z, K2, rfl, h⟩; have H4 := Lib.hid h; clear h))
      all_goals
        by_cases hz : z = 0
        · subst hz
          go_wp2
          go_roundw
          case rel => exact ⟨j + 1, K2, by omega, by omega, by go_num, H4.out.2.1 rfl⟩
          case measure => simp [RowKit.intOf]; omega
        · have k2 : (z != 0) = true := by simp [hz]
          go_wp2
          go_ret
          exact ⟨z, K2, rfl, H4.out.2.2 hz, fun q => absurd q hz⟩
    · have hjm : j = max m N := by omega
      have HE2 := Lib.hid (HE.out _ K1 (hjm ▸ H.out))
      have j1 : decide ((j : Int) < (N : Int)) = false := decide_eq_false (by omega)
      clear hlt H
      go_wp2
      go_ret
      exact ⟨0, K1, rfl, HE2.out.1, fun _ => HE2.out.2⟩
end
end Go.Proofs.YtbkngnjkaledlaaGreat.P8

/-
  The reference's Zeros and LayPage; package page's Lay of a page that may not be; Front; the reference's Num, by contracts.
-/
namespace Go.Proofs.YtbkngnjkaledlaaGreat.P5
open Go Go.RowKit Go.Lib Go.Proofs.YtbkngnjkaledlaaGreat.P0 Go.Proofs.YtbkngnjkaledlaaGreat.P2

theorem zeros_cell (n j : Nat) (h : j < n) : (madeCells #[Value.int .u8 0] n)[j]? = some (.int .u8 0) := by
  simp [madeCells, h, Nat.mod_one]
theorem zeros_string (w : World) (n : Nat) : (convert 141 9 (.slice (some ⟨w.heap.size, 0, none⟩) n n)).run Tryz.prog (w.alloc (.cells (madeCells #[.int .u8 0] n) 5)) = .ok (.string (zer n)) (w.alloc (.cells (madeCells #[.int .u8 0] n) 5)) := by
  have h := run_convert_bytes_back (w.alloc (.cells (madeCells #[.int .u8 0] n) 5)) 141 9 5 ⟨w.heap.size, 0, none⟩ n (List.replicate n (0 : UInt8)) Tryz.underlying141 Tryz.underlying5 Tryz.underlying9 (fun j hj => by
    rw [Go.WideShapes.add_plain, Nat.zero_add, cell_at (new_at w _ _), zeros_cell n j (by simpa using hj)]
    simp)
  rw [List.length_replicate] at h
  exact h
theorem made_row5 (w : World) (n : Nat) (hn : n ≤ 100000) : (Instr.makeSlice 141 (.int .i64 n) (.int .i64 n)).run Tryz.prog w = .ok (.slice (some ⟨w.heap.size, 0, none⟩) n n) (w.alloc (.cells (madeCells #[.int .u8 0] n) 5)) :=
  run_make_row' (P := Tryz.prog) 141 5 (.int .u8 0) 1 Tryz.underlying141 infoByte rfl .i64 .i64 n (by omega) (by omega) w
theorem rZeros_any (w : World) (n : Nat) (hn : n ≤ 100000) :
    Calls Tryz.prog 86 #[.int .i64 n] w fun r w' => r = .returned (.string (zer n)) ∧ Below w.heap.size w w' := by
  have h1 := made_row5 w n hn
  have h2 := zeros_string w n
  have hB := Lib.hid (below_new w (.cells (madeCells #[.int .u8 0] n) 5))
  generalize w.alloc (.cells (madeCells #[.int .u8 0] n) 5) = w2 at h1 h2 hB
  go_enter Tryz.func86, Tryz.ntmps86
  go_wp2
  go_ret
  exact ⟨rfl, hB.out⟩

/-- a page that may not be -/
theorem lay_bad (w : World) (p : Pg) (h : ¬ p.ok) :
    Calls Tryz.prog 85 #[p.v] w fun r w' => r = .returned (.tuple #[.string ⟨#[]⟩, .int .i64 1]) ∧ Below w.heap.size w w' := by
  have HV := fun w' => Lib.hid (valid_any w' p)
  rw [decide_eq_false h] at HV
  unfold Pg.v at *
  go_enter Tryz.func85, Tryz.ntmps85
  go_wp2_with (go_at_call 84; refine (HV _).out.mono ?_; rintro e w1 ⟨rfl, hb1⟩)
  go_ret2
  exact ⟨rfl, thenBelow (below_new _ _) hb1⟩

/-- the page stands in block a -/
structure RSt (w0 : World) (a : Nat) (p : Pg) (w : World) : Prop where
  page : w.heap[a]? = some (.cells p.cells 47 (0, 0))
  below : Below w0.heap.size w0 w
theorem RSt.over {w0 : World} {a : Nat} {p : Pg} {w w' : World} (h : RSt w0 a p w) (k : Below w.heap.size w w') : RSt w0 a p w' :=
  ⟨by rw [k.block a (lt_of_block h.page)]; exact h.page, thenBelow h.below k⟩
theorem RSt.drew {w0 : World} {a : Nat} {p : Pg} {w : World} (h : RSt w0 a p w) : RSt w0 a p w.drew := h.over ((Below.refl _ _).drew)
theorem RSt.start (w : World) (p : Pg) : RSt w w.heap.size p (w.alloc (.cells p.cells 47)) := ⟨new_at w _ _, below_new w _⟩

/-- the reference's bytes, in its own order -/
theorem fore_ref (k n id tx : Nat) (body : ByteArray) : str (low 1 k) ++ str (low 1 n) ++ str (low 2 id) ++ str (low 4 tx) ++ str (low 8 tx) ++ body ++ zer (232 - n) = str (fore k n id tx body.data.toList) := by
  apply text_ext
  simp only [text_app, str_list, zer, P5.fore, List.append_assoc]
theorem sector_ref (p : Pg) : sealOf (str p.fore) ++ str (low 4 p.tx.toNat) = p.sector := by
  apply text_ext
  rw [text_app, str_list, sealOf, text_app, str_list, tailOf, str_list, str_list, Pg.sector, str_list, Pg.laid, List.append_assoc]

set_option maxRecDepth 100000 in
set_option maxHeartbeats 4000000 in
theorem rLay_ok (w : World) (p : Pg) (h : p.ok) :
    Calls Tryz.prog 38 #[p.v] w fun r w' => r = .returned (.string p.sector) ∧ Below w.heap.size w w' := by
  have hR := sector_ref p
  have hS : (sealOf (str p.fore)).size = 252 := by rw [seal_size, str_size, p.fore_len h]
  have hF : (str p.fore).size = 248 := by rw [str_size, p.fore_len h]
  have HSe := fun w' => Lib.hid (rSeal_any w' (str p.fore) (by omega))
  have hst := RSt.start w p
  obtain ⟨k, id, tx, body⟩ := p
  obtain ⟨h1, h2, h3, h4, h5, h6, h7⟩ := h
  simp only at h1 h2 h3 h4 h5 h6 h7
  obtain ⟨k, rfl⟩ := Int.eq_ofNat_of_zero_le (show 0 ≤ k by omega)
  obtain ⟨id, rfl⟩ := Int.eq_ofNat_of_zero_le h3
  obtain ⟨tx, rfl⟩ := Int.eq_ofNat_of_zero_le h5
  have hz := zer_size (232 - body.size)
  have LL : ∀ (n v : Nat) (W : World), n ≤ 8 → v < 18446744073709551616 → RSt w w.heap.size ⟨k, id, tx, body⟩ W → Calls Tryz.prog 87 #[.int .u64 v, .int .i64 n] W fun r w' => r = .returned (.string (str (low n v))) ∧ RSt w w.heap.size ⟨k, id, tx, body⟩ w' :=
    fun n v W hn hv hW => (rLow_any W v n hv hn).mono fun _ _ ⟨a, d⟩ => ⟨a, hW.over d⟩
  have L1 := Lib.hid (show ∀ W, RSt w w.heap.size ⟨k, id, tx, body⟩ W → Calls Tryz.prog 87 #[.int .u64 k, .int .i64 1] W fun r w' => r = .returned (.string (str (low 1 k))) ∧ RSt w w.heap.size ⟨k, id, tx, body⟩ w' from fun W hW => LL 1 k W (by omega) (by omega) hW)
  have L2 := Lib.hid (show ∀ W, RSt w w.heap.size ⟨k, id, tx, body⟩ W → Calls Tryz.prog 87 #[.int .u64 body.size, .int .i64 1] W fun r w' => r = .returned (.string (str (low 1 body.size))) ∧ RSt w w.heap.size ⟨k, id, tx, body⟩ w' from fun W hW => LL 1 body.size W (by omega) (by omega) hW)
  have L3 := Lib.hid (show ∀ W, RSt w w.heap.size ⟨k, id, tx, body⟩ W → Calls Tryz.prog 87 #[.int .u64 id, .int .i64 2] W fun r w' => r = .returned (.string (str (low 2 id))) ∧ RSt w w.heap.size ⟨k, id, tx, body⟩ w' from fun W hW => LL 2 id W (by omega) (by omega) hW)
  have L4 := Lib.hid (show ∀ W, RSt w w.heap.size ⟨k, id, tx, body⟩ W → Calls Tryz.prog 87 #[.int .u64 tx, .int .i64 4] W fun r w' => r = .returned (.string (str (low 4 tx))) ∧ RSt w w.heap.size ⟨k, id, tx, body⟩ w' from fun W hW => LL 4 tx W (by omega) (by omega) hW)
  have L5 := Lib.hid (show ∀ W, RSt w w.heap.size ⟨k, id, tx, body⟩ W → Calls Tryz.prog 87 #[.int .u64 tx, .int .i64 8] W fun r w' => r = .returned (.string (str (low 8 tx))) ∧ RSt w w.heap.size ⟨k, id, tx, body⟩ w' from fun W hW => LL 8 tx W (by omega) (by omega) hW)
  have X4 := fun W => Lib.hid (show Calls Tryz.prog 87 #[.int .u64 tx, .int .i64 4] W fun r w' => r = .returned (.string (str (low 4 tx))) ∧ Below W.heap.size W w' from rLow_any W tx 4 (by omega) (by omega))
  have L6 := Lib.hid (show ∀ W, RSt w w.heap.size ⟨k, id, tx, body⟩ W → Calls Tryz.prog 86 #[.int .i64 (IntKind.i64.wrap (232 - (body.size : Int)))] W fun r w' => r = .returned (.string (zer (232 - body.size))) ∧ RSt w w.heap.size ⟨k, id, tx, body⟩ w' from
    fun W hW => by
      rw [show IntKind.i64.wrap ((232 : Int) - (body.size : Int)) = ((232 - body.size : Nat) : Int) by rw [IntKind.wrap_i64]; omega]
      exact (rZeros_any W (232 - body.size) (by omega)).mono fun _ _ ⟨a, d⟩ => ⟨a, hW.over d⟩)
  have L7 := Lib.hid (show ∀ W, RSt w w.heap.size ⟨k, id, tx, body⟩ W → Calls Tryz.prog 86 #[.int .i64 (232 - (body.size : Int))] W fun r w' => r = .returned (.string (zer (232 - body.size))) ∧ RSt w w.heap.size ⟨k, id, tx, body⟩ w' from
    fun W hW => by
      rw [show ((232 : Int) - (body.size : Int)) = ((232 - body.size : Nat) : Int) by omega]
      exact (rZeros_any W (232 - body.size) (by omega)).mono fun _ _ ⟨a, d⟩ => ⟨a, hW.over d⟩)
  have y1 : ¬ 9223372036854775807 < 16 + body.size := by omega
  have y2 : ¬ 9223372036854775807 < 16 + body.size + (232 - body.size) := by omega
  have CE := Lib.hid (show ∀ W, RSt w w.heap.size ⟨k, id, tx, body⟩ W → PCells W w.heap.size ⟨k, id, tx, body⟩ from fun W hW => Pg.pcells hW.page)
  have BE := Lib.hid (show ∀ W, RSt w w.heap.size ⟨k, id, tx, body⟩ W → Below w.heap.size w W from fun W hW => hW.below)
  have eF := fore_ref k body.size id tx body
  rw [show str (fore k body.size id tx body.data.toList) = str (Pg.mk k id tx body).fore from rfl] at eF
  generalize str (Pg.mk k id tx body).fore = F at HSe hR hS hF eF
  generalize (Pg.mk k id tx body).sector = R at hR
  rw [show (Pg.mk (k : Int) id tx body).tx.toNat = tx from rfl] at hR
  have z1 : (str (low 1 k)).size = 1 := by rw [str_size, low_length]
  have z2 : (str (low 1 body.size)).size = 1 := by rw [str_size, low_length]
  have z3 : (str (low 2 id)).size = 2 := by rw [str_size, low_length]
  have z4 : (str (low 4 tx)).size = 4 := by rw [str_size, low_length]
  have z5 : (str (low 8 tx)).size = 8 := by rw [str_size, low_length]
  generalize str (low 1 k) = s1 at L1 eF z1
  generalize str (low 1 body.size) = s2 at L2 eF z2
  generalize str (low 2 id) = s3 at L3 eF z3
  generalize str (low 4 tx) = s4 at L4 eF z4 hR X4
  generalize str (low 8 tx) = s5 at L5 eF z5
  generalize zer (232 - body.size) = Z at L6 L7 hz eF
  generalize sealOf F = G at HSe hR hS
  have HE := Lib.hid hR
  have HF := Lib.hid eF
  have w1 : IntKind.u64.wrap (k : Int) = k := by rw [IntKind.wrap_u64]; omega
  have w2 : IntKind.u64.wrap (id : Int) = id := by rw [IntKind.wrap_u64]; omega
  have w3 : IntKind.u64.wrap (tx : Int) = tx := by rw [IntKind.wrap_u64]; omega
  have w4 : IntKind.u64.wrap (body.size : Int) = body.size := by rw [IntKind.wrap_u64]; omega
  clear h1 h2 h3 h4 h5 h6 hR LL eF
  have q0 := CE.out _ hst
  have q0d := CE.out _ hst.drew
  have hstd := hst.drew
  have m0 := BE.out _ hst
  unfold PCells at CE q0 q0d
  simp only at q0 q0d
  unfold Pg.v Pg.cells at *
  go_enter Tryz.func38, Tryz.ntmps38
  go_wp2
  go_region_held3 (fun w' => w'.cell? ⟨w.heap.size, 0, none⟩ = some (.int .i64 k) ∧ w'.cell? ⟨w.heap.size, 1, none⟩ = some (.int .i64 id) ∧ w'.cell? ⟨w.heap.size, 2, none⟩ = some (.int .i64 tx) ∧ w'.cell? ⟨w.heap.size, 3, none⟩ = some (.string body)) (first | exact q0 | exact q0d | exact CE.out _ (by assumption))
    ((first
      | (go_at_call 87; rw [w1]; (with_reducible refine (L1.out _ (by assumption)).mono ?_); rintro e w5 ⟨rfl, st1⟩)
      | (go_at_call 87; rw [w4]; (with_reducible refine (L2.out _ (by assumption)).mono ?_); rintro e w5 ⟨rfl, st1⟩)
      | (go_at_call 87; rw [w2]; (with_reducible refine (L3.out _ (by assumption)).mono ?_); rintro e w5 ⟨rfl, st1⟩)
      | (go_at_call 87; rw [w3]; (with_reducible refine (L4.out _ (by assumption)).mono ?_); rintro e w5 ⟨rfl, st1⟩)
      | (go_at_call 87; (with_reducible refine (L1.out _ (by assumption)).mono ?_); rintro e w5 ⟨rfl, st1⟩)
      | (go_at_call 87; (with_reducible refine (L2.out _ (by assumption)).mono ?_); rintro e w5 ⟨rfl, st1⟩)
      | (go_at_call 87; (with_reducible refine (L3.out _ (by assumption)).mono ?_); rintro e w5 ⟨rfl, st1⟩)
      | (go_at_call 87; (with_reducible refine (L4.out _ (by assumption)).mono ?_); rintro e w5 ⟨rfl, st1⟩)
      | (go_at_call 87; (with_reducible refine (L5.out _ (by assumption)).mono ?_); rintro e w5 ⟨rfl, st1⟩)
      | (go_at_call 86; (with_reducible refine (L6.out _ (by assumption)).mono ?_); rintro e w5 ⟨rfl, st1⟩)
      | (go_at_call 86; (with_reducible refine (L7.out _ (by assumption)).mono ?_); rintro e w5 ⟨rfl, st1⟩)))
  have HR : Hid (∀ W, RSt w w.heap.size ⟨k, id, tx, body⟩ W → ∀ W2, Below W.heap.size W W2 → ∀ W3, Below W2.heap.size W2 W3 → Below w.heap.size w W3) := fun W hW W2 h2 W3 h3 => thenBelow (thenBelow hW.below h2) h3
  clear hst hstd m0 q0 q0d
  rw [HF.out]
  go_wp2_with (first
    | (go_at_call 88; (with_reducible refine (HSe _).out.mono ?_); rintro e w6 ⟨rfl, hb6⟩)
    | (go_at_call 87; (with_reducible refine (X4 _).out.mono ?_); rintro e w7 ⟨rfl, hb7⟩))
  go_ret
  rw [HE.out]
  exact ⟨rfl, HR.out _ (by assumption) _ hb6 _ hb7⟩

end Go.Proofs.YtbkngnjkaledlaaGreat.P5
