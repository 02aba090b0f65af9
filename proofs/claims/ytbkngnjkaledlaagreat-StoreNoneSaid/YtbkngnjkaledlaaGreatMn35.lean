/-
  Texts of the proof of SaidNone8, side by side: St2.
-/
import Derived.Test.YtbkngnjkaledlaaGreatMn25
import Derived.Test.YtbkngnjkaledlaaGreatMn27
import Derived.Test.YtbkngnjkaledlaaGreatMn34
/-
  Package store: fill, up to the first error. (Store, part 2.)
-/
namespace Go.Proofs.YtbkngnjkaledlaaGreat.P8
open Go Go.RowKit Go.Lib Go.Maps Go.ChangeMaps Go.MapKept Go.Proofs.YtbkngnjkaledlaaGreat.P3 Go.Proofs.YtbkngnjkaledlaaGreat.P4
open Go.Proofs.YtbkngnjkaledlaaGreat.P5 (zer repeat_zer zer_size)

section
variable {w w' w1 : World} {b d m : Nat} {s data : ByteArray} {i z : Int} {n : Int} {K K1 K2 : Dk} {l : List (Int × ByteArray)}
/-- the file has m sectors, as Size tells it -/
def SzF (K : Dk) (s : ByteArray) (m : Nat) : Prop := sizeF K.on s.size (getF K.files s.data.toList) = m
theorem SzK.f (h : SzK K s m) : SzF K s m := by
  obtain ⟨h1, h2, h3⟩ := h
  unfold SzF sizeF
  rw [if_pos h2, ← h3]
  unfold sizeN
  cases getF K.files s.data.toList <;> rfl
theorem wk_ok (h : WK d K s i data 0 K1 w1) : P4.writeE K s i data.size = 0 := by
  rcases h with ⟨q1, q2, _⟩ | ⟨_, _, q, _⟩ | ⟨q1, _⟩
  · exact absurd q2.symm q1
  · exact absurd q (by decide)
  · exact q1
theorem write_on {k : Nat} (h : P4.writeE K s i k = 0) : errn K.on s.size = 0 := by
  unfold P4.writeE at h
  by_cases e : errn K.on s.size = 0
  · exact e
  · rw [if_pos e] at h; exact h
theorem SzF.k (h : SzF K s m) (hw : WK d K s i data 0 K1 w1) : SzK K s m := by
  have e := write_on (wk_ok hw)
  refine ⟨errn_on e, e, ?_⟩
  unfold SzF sizeF at h
  rw [if_pos e] at h
  rw [← h]
  unfold sizeN
  cases getF K.files s.data.toList <;> rfl
theorem wk_turn (h : WK d K s i data z K1 w1) : K1.turn ≤ K.turn + 1 := by
  rcases h with ⟨_, _, rfl⟩ | ⟨_, _, _, w0, K0, n, _, hw, hc⟩ | ⟨_, _, _, K0, hw, rfl⟩
  · exact Nat.le_succ _
  · rw [hc.eq]; show K0.turn ≤ _; rw [hw.same]; exact Nat.le_refl _
  · have e : (counted K0).turn = K0.turn := by unfold counted; split <;> rfl
    rw [e, hw.same]; exact Nat.le_refl _
theorem wk_left (h : WK d K s i data z K1 w1) : K1.left ≤ max K.left 0 := by
  rcases h with ⟨_, _, rfl⟩ | ⟨_, _, _, w0, K0, n, _, hw, hc⟩ | ⟨_, _, _, K0, hw, rfl⟩
  · omega
  · rw [hc.eq]; show (0 : Int) ≤ _; omega
  · have e : (counted K0).left ≤ K0.left := by
      unfold counted
      split
      · show K0.left - 1 ≤ _; omega
      · omega
    have e2 : K0.left = K.left := by rw [hw.same]
    omega
theorem WTr.turn (h : WTr d s K l z K2) : K2.turn ≤ K.turn + l.length := by
  induction h with
  | nil K => exact Nat.le_refl _
  | ok hK ht hdm hw rest ih => have := wk_turn hw; simp only [List.length_cons]; omega
  | bad hK ht hdm hw hz => have := wk_turn hw; simp only [List.length_cons]; omega
theorem WTr.left (h : WTr d s K l z K2) : K2.left ≤ max K.left 0 := by
  induction h with
  | nil K => omega
  | ok hK ht hdm hw rest ih => have := wk_left hw; omega
  | bad hK ht hdm hw hz => exact wk_left hw
theorem zerosW_len (zs : ByteArray) (n m : Nat) : (zerosW zs n m).length = m - n := by simp [zerosW]
theorem zerosW_snoc {zs : ByteArray} {n m : Nat} (h : n ≤ m) : zerosW zs n (m + 1) = zerosW zs n m ++ [((m : Int), zs)] := by
  unfold zerosW
  rw [show m + 1 - n = (m - n) + 1 by omega, List.range_succ, List.map_append, List.map_cons, List.map_nil, show n + (m - n) = m by omega]
theorem zerosW_max (zs : ByteArray) (n m : Nat) : zerosW zs n (max n m) = zerosW zs n m := by
  by_cases h : m ≤ n
  · rw [zerosW_done h, zerosW_done (by omega)]
  · rw [Nat.max_eq_right (by omega)]
theorem zerosW_cut {zs : ByteArray} {n j m : Nat} (h1 : n ≤ j) (h2 : j < m) : zerosW zs n m = zerosW zs n j ++ ((j : Int), zs) :: zerosW zs (j + 1) m := by
  obtain ⟨q, rfl⟩ : ∃ q, m = j + 1 + q := ⟨m - (j + 1), by omega⟩
  clear h2
  induction q with
  | zero => rw [Nat.add_zero, zerosW_snoc h1, zerosW_done (n := j + 1) (Nat.le_refl _)]
  | succ q ih => rw [← Nat.add_assoc, zerosW_snoc (by omega), ih, zerosW_snoc (by omega), List.append_assoc, List.cons_append]
/-- the loop's state: j sectors are there -/
structure FillSt (w : World) (b d : Nat) (s : ByteArray) (n : Int) (K : Dk) (m j : Nat) (wr : World) (K1 : Dk) : Prop where
  tr : WTr d s K (zerosW (zer 256) m j) 0 K1
  sd : SD wr b d s n K1
  st : Step w d K wr K1
  sz : SzF K1 s j
  turn : K1.turn ≤ K.turn + (j - m)
  left : K1.left ≤ max K.left 0
theorem FillSt.over {W W' : World} {j : Nat} (h : FillSt w b d s n K m j W K1) (hb : Below W.heap.size W W') : FillSt w b d s n K m j W' K1 :=
  ⟨h.tr, h.sd.below hb, h.st.trans (Step.below h.sd.2.1 hb), h.sz, h.turn, h.left⟩
/-- what a call that writes leaves -/
structure Did (w : World) (b d : Nat) (s : ByteArray) (n : Int) (K : Dk) (l : List (Int × ByteArray)) (z : Int) (W : World) (K2 : Dk) : Prop where
  tr : WTr d s K l z K2
  sd : SD W b d s n K2
  st : Step w d K W K2
theorem Did.over {W W' : World} (h : Did w b d s n K l z W K2) (hb : Below W.heap.size W W') : Did w b d s n K l z W' K2 :=
  ⟨h.tr, h.sd.below hb, h.st.trans (Step.below h.sd.2.1 hb)⟩
/-- one write more -/
theorem FillSt.write {W : World} {j N : Nat} (h : FillSt w b d s n K m j W K1) (hmj : m ≤ j) (hj : j < N) (hs : s.size ≤ maxLen) (hl : K.left ≤ 9223372036854775807) (ht : K.turn + (N - m) < 8999) :
    Calls Tryz.prog 41 #[.pointer (some ⟨d, 0, none⟩), .string s, .int .i64 j, .string (zer 256)] W fun e w2 => ∃ z K2, e = .returned (.int .i64 z) ∧ SD w2 b d s n K2 ∧ (z = 0 → FillSt w b d s n K m (j + 1) w2 K2) ∧ (z ≠ 0 → Did w b d s n K (zerosW (zer 256) m N) z w2 K2) := by
  have hleft := h.left
  have hturn := h.turn
  refine (h.sd.2.1.writeK (by omega) (by omega) s j (zer 256) hs).mono ?_
  rintro e w2 ⟨z, K2, rfl, hst, hwk⟩
  have hsd := h.sd.step hst
  refine ⟨z, K2, rfl, hsd, fun hz => ?_, fun hz => ?_⟩
  · subst hz
    have hk := (h.sz.k hwk).write hwk
    refine ⟨?_, hsd, h.st.trans hst, ?_, by have := wk_turn hwk; omega, by have := wk_left hwk; omega⟩
    · rw [zerosW_snoc hmj]
      exact h.tr.app (.inl ⟨rfl, .ok h.sd.2.1 (by omega) (by rw [zer_size]; decide) hwk (.nil _)⟩)
    · have q := hk.1.f
      rw [show max j ((j : Int).toNat + 1) = j + 1 by omega] at q
      exact q
  · refine ⟨?_, hsd, h.st.trans hst⟩
    rw [zerosW_cut hmj hj]
    exact h.tr.app (.inl ⟨rfl, .bad h.sd.2.1 (by omega) (by rw [zer_size]; decide) hwk hz⟩)
set_option maxRecDepth 100000 in
set_option maxHeartbeats 2000000 in
theorem SD.fill (h : SD w b d s n K) (N : Nat) (hN : N ≤ 100000) (hm : SzF K s m) (hm2 : m ≤ 100000) (hs : s.size ≤ maxLen) (hl : K.left ≤ 9223372036854775807) (ht : K.turn + (N - m) < 8999) :
    Calls Tryz.prog 40 #[.pointer (some ⟨b, 0, none⟩), .int .i64 N] w fun e w2 => ∃ z K2, e = .returned (.int .i64 z) ∧ Did w b d s n K (zerosW (zer 256) m N) z w2 K2 ∧ (z = 0 → SzF K2 s (max m N) ∧ K2.turn ≤ K.turn + (N - m)) := by
  have HR : Hid (∀ W, Calls Tryz.prog 91 #[.string ⟨#[0]⟩, .int .i64 256] W fun e w' => e = .returned (.string (zer 256)) ∧ Below W.heap.size W w') := fun W => repeat_zer W 256 (by omega)
  have HZ : Hid (∀ W, SD W b d s n K → Calls Tryz.prog 23 #[.pointer (some ⟨b, 0, none⟩)] W fun e w' => e = .returned (.int .i64 m) ∧ Below W.heap.size W w') := fun W k => by
    have := k.size hs
    rw [show sizeF K.on s.size (getF K.files s.data.toList) = m from hm] at this
    exact this
  have HWr : Hid (∀ (j : Nat) (W : World) (K1 : Dk), m ≤ j → j < N → FillSt w b d s n K m j W K1 → Calls Tryz.prog 41 #[.pointer (some ⟨d, 0, none⟩), .string s, .int .i64 j, .string (zer 256)] W fun e w2 => ∃ z K2, e = .returned (.int .i64 z) ∧ SD w2 b d s n K2 ∧ (z = 0 → FillSt w b d s n K m (j + 1) w2 K2) ∧ (z ≠ 0 → Did w b d s n K (zerosW (zer 256) m N) z w2 K2)) :=
    fun j W K1 h1 h2 h3 => h3.write h1 h2 hs hl ht
  have HX : Hid (∀ W K', SD W b d s n K' → W.cell? ⟨b, 0, none⟩ = some (.pointer (some ⟨d, 0, none⟩)) ∧ W.cell? ⟨b, 1, none⟩ = some (.string s)) := fun _ _ k => k.cells
  have HS0 : Hid (∀ W, Below w.heap.size w W → FillSt w b d s n K m m W K) := fun W hb => ⟨by rw [zerosW_done (Nat.le_refl _)]; exact .nil K, h.below hb, Step.below h.2.1 hb, hm, by omega, by omega⟩
  have HE : Hid (∀ W K1, FillSt w b d s n K m (max m N) W K1 → Did w b d s n K (zerosW (zer 256) m N) 0 W K1 ∧ SzF K1 s (max m N) ∧ K1.turn ≤ K.turn + (N - m)) := fun W K1 k => ⟨⟨by have := k.tr; rw [zerosW_max] at this; exact this, k.sd, k.st⟩, k.sz, by have := k.turn; omega⟩
  clear h hm hl ht
  go_enter Tryz.func40, Tryz.ntmps40
  go_wp2_with (first
    | (go_at_call 91; (with_reducible refine (HR.out _).mono ?_); rintro e w1 ⟨rfl, hb⟩; have H1 := Lib.hid (HS0.out _ hb); clear hb)
    | (go_at_call 23; (with_reducible refine (HZ.out _ H1.out.sd).mono ?_); rintro e w2 ⟨rfl, hb⟩; have H2 := Lib.hid (H1.out.over hb); clear hb))
  clear HR HZ HS0
  go_loopw [6] (fun va wr => ∃ (j : Nat) (K1 : Dk), m ≤ j ∧ j ≤ max m N ∧ va = .int .i64 j ∧ Hid (FillSt w b d s n K m j wr K1)) (fun va _ => N - (RowKit.intOf va).toNat)
  case atStart => exact ⟨m, K, Nat.le_refl _, by omega, rfl, H2⟩
  case round =>
    clear H1 H2
    obtain ⟨j, K1, hmj, hj, rfl, H⟩ := hrel
    by_cases hlt : j < N
    · have HW := Lib.hid (HWr.out j wr K1 hmj hlt H.out)
      have Hd := Lib.hid (H.out.over (Below.refl _ _).drew)
      have HWd := Lib.hid (HWr.out j _ K1 hmj hlt Hd.out)
      have j1 : (j : Int) < (N : Int) := by omega
      go_upto_region 5 with fail
      go_region_held3 (fun W' => W'.cell? ⟨b, 0, none⟩ = some (.pointer (some ⟨d, 0, none⟩)) ∧ W'.cell? ⟨b, 1, none⟩ = some (.string s)) (first | exact HX.out _ _ H.out.sd | exact HX.out _ _ Hd.out.sd | exact HX.out _ _ H4.out.1)
        ((go_at_call 41; (first | (with_reducible refine (HWd.out).mono ?_) | (with_reducible refine (HW.out).mono ?_)); rintro e w3 ⟨z, K2, rfl, h⟩; have H4 := Lib.hid h; clear h))
      all_goals
        by_cases hz : z = 0
        · subst hz
          go_wp2
          go_roundw
          case rel => exact ⟨j + 1, K2, by omega, by omega, by go_num, H4.out.2.1 rfl⟩
          case measure => simp [RowKit.intOf]; omega
        · have k2 : (z != 0) = true := by simp [hz]
          go_wp2
          go_ret
          exact ⟨z, K2, rfl, H4.out.2.2 hz, fun q => absurd q hz⟩
    · have hjm : j = max m N := by omega
      have HE2 := Lib.hid (HE.out _ K1 (hjm ▸ H.out))
      have j1 : decide ((j : Int) < (N : Int)) = false := decide_eq_false (by omega)
      clear hlt H
      go_wp2
      go_ret
      exact ⟨0, K1, rfl, HE2.out.1, fun _ => HE2.out.2⟩
end
end Go.Proofs.YtbkngnjkaledlaaGreat.P8
