/-
  The reference's Get: Raw, Num; held against the program's. (By gen_pack.py.)
-/
import Derived.Test.YthihjkdankbnjaaGreatLk0
namespace Go.Proofs.YthihjkdankbnjaaGreat.PP
open Go Go.RowKit Go.Lib Go.Proofs.YthihjkdankbnjaaGreat.P0

/-- block b is a reference's Get: its bytes, its error -/
def RGetAt (w : World) (b : Nat) (s : ByteArray) (e : Int) : Prop := w.heap[b]? = some (.cells #[.string s, .int .i64 e] 73 (0, 0))
theorem RGetAt.c0 {w : World} {b : Nat} {s : ByteArray} {e : Int} (h : RGetAt w b s e) : w.cell? ⟨b, 0, none⟩ = some (.string s) := by unfold RGetAt at h; rw [cell_at h]; rfl
theorem RGetAt.c1 {w : World} {b : Nat} {s : ByteArray} {e : Int} (h : RGetAt w b s e) : w.cell? ⟨b, 1, none⟩ = some (.int .i64 e) := by unfold RGetAt at h; rw [cell_at h]; rfl
theorem RGetAt.f {w : World} {b : Nat} {s : ByteArray} {e : Int} (h : RGetAt w b s e) (j : Nat) : w.frozen? ⟨b, j, none⟩ = false := free_at h j
theorem RGetAt.set0 {w : World} {b : Nat} {s : ByteArray} {e : Int} (h : RGetAt w b s e) (t : ByteArray) : RGetAt (w.setCell ⟨b, 0, none⟩ (.string t)) b t e := by unfold RGetAt at *; rw [set_at h]; rfl
theorem RGetAt.set1 {w : World} {b : Nat} {s : ByteArray} {e : Int} (h : RGetAt w b s e) (d : Int) : RGetAt (w.setCell ⟨b, 1, none⟩ (.int .i64 d)) b s d := by unfold RGetAt at *; rw [set_at h]; rfl

/-- what the reference's Raw comes to -/
def refStr (n : Int) (s : ByteArray) (e : Int) : ByteArray × ByteArray × Int :=
  if e = 0 then (if n < 0 then (⟨#[]⟩, s, 1) else if n ≤ s.size then (s.extract 0 n.toNat, s.extract n.toNat s.size, 0) else (⟨#[]⟩, s, 5)) else (⟨#[]⟩, s, e)

theorem rRaw_bad (w : World) (b : Nat) (s : ByteArray) (e n : Int) (he : e ≠ 0) (h : RGetAt w b s e) :
    Calls Tryz.prog 88 #[.pointer (some ⟨b, 0, none⟩), .int .i64 n] w fun r w' => r = .returned (.string ⟨#[]⟩) ∧ w = w' := by
  have k : (e != 0) = true := by simpa using he
  have c1 := h.c1
  clear h
  go_enter Tryz.func88, Tryz.ntmps88
  go_wp2
  go_ret
  exact ⟨rfl, rfl⟩
theorem rRaw_neg (w : World) (b : Nat) (s : ByteArray) (n : Int) (hn : n < 0) (h : RGetAt w b s 0) :
    Calls Tryz.prog 88 #[.pointer (some ⟨b, 0, none⟩), .int .i64 n] w fun r w' => r = .returned (.string ⟨#[]⟩) ∧ RGetAt w' b s 1 ∧ Fr b w w' := by
  have k : decide (n < 0) = true := decide_eq_true hn
  have c1 := h.c1
  have f1 := h.f 1
  have g := h.set1 1
  have hB : Fr b w (w.setCell ⟨b, 1, none⟩ (.int .i64 1)) := (Fr.refl b w).setCell _ _
  clear h
  go_enter Tryz.func88, Tryz.ntmps88
  go_wp2
  go_ret
  exact ⟨rfl, g, hB⟩
theorem rRaw_over (w : World) (b : Nat) (s : ByteArray) (n : Nat) (hn : s.size < n) (h : RGetAt w b s 0) :
    Calls Tryz.prog 88 #[.pointer (some ⟨b, 0, none⟩), .int .i64 n] w fun r w' => r = .returned (.string ⟨#[]⟩) ∧ RGetAt w' b s 5 ∧ Fr b w w' := by
  have k : decide ((n : Int) < 0) = false := by simp
  have k2 : decide (s.size < n) = true := by simpa using hn
  have k3 : decide ((s.size : Int) < (n : Int)) = true := by simpa using hn
  have c0 := h.c0
  have c1 := h.c1
  have f1 := h.f 1
  have g := h.set1 5
  have hB : Fr b w (w.setCell ⟨b, 1, none⟩ (.int .i64 5)) := (Fr.refl b w).setCell _ _
  clear h
  go_enter Tryz.func88, Tryz.ntmps88
  go_wp2
  go_ret
  exact ⟨rfl, g, hB⟩
theorem rRaw_ok (w : World) (b : Nat) (s : ByteArray) (n : Nat) (hn : n ≤ s.size) (h : RGetAt w b s 0) :
    Calls Tryz.prog 88 #[.pointer (some ⟨b, 0, none⟩), .int .i64 n] w fun r w' => r = .returned (.string (s.extract 0 n)) ∧ RGetAt w' b (s.extract n s.size) 0 ∧ Fr b w w' := by
  have k : decide ((n : Int) < 0) = false := by simp
  have k2 : decide (s.size < n) = false := by simpa using hn
  have k3 : decide ((s.size : Int) < (n : Int)) = false := by simpa using hn
  have c0 := h.c0
  have c1 := h.c1
  have f0 := h.f 0
  have g := h.set0 (s.extract n s.size)
  have hB : Fr b w (w.setCell ⟨b, 0, none⟩ (.string (s.extract n s.size))) := (Fr.refl b w).setCell _ _
  clear h
  go_enter Tryz.func88, Tryz.ntmps88
  go_wp2
  go_ret
  exact ⟨rfl, g, hB⟩
theorem rRaw_any (w : World) (b : Nat) (s : ByteArray) (e n : Int) (h : RGetAt w b s e) :
    Calls Tryz.prog 88 #[.pointer (some ⟨b, 0, none⟩), .int .i64 n] w fun r w' => r = .returned (.string (refStr n s e).1) ∧ RGetAt w' b (refStr n s e).2.1 (refStr n s e).2.2 ∧ Fr b w w' := by
  unfold refStr
  by_cases he : e = 0
  · subst he
    rw [if_pos rfl]
    by_cases hn : n < 0
    · rw [if_pos hn]
      exact rRaw_neg w b s n hn h
    · obtain ⟨k, rfl⟩ := Int.eq_ofNat_of_zero_le (show 0 ≤ n by omega)
      rw [if_neg hn]
      by_cases hk : k ≤ s.size
      · rw [if_pos (by omega)]
        exact rRaw_ok w b s k hk h
      · rw [if_neg (by omega)]
        exact rRaw_over w b s k (by omega) h
  · rw [if_neg he]
    exact (rRaw_bad w b s e n he h).mono fun _ _ ⟨a, c⟩ => ⟨a, c ▸ h, c ▸ Fr.refl _ _⟩

theorem drop_num (s : ByteArray) (k : Nat) (h : k < s.size) : num (s.data.toList.drop k) = s[k].toNat + 256 * num (s.data.toList.drop (k + 1)) := by
  rw [List.drop_eq_getElem_cons (by simpa using h)]; rfl
theorem num_drop_lt (s : ByteArray) (k : Nat) (h8 : s.size ≤ 8) : num (s.data.toList.drop (k + 1)) ≤ 72057594037927935 := by
  have h1 := num_lt (s.data.toList.drop (k + 1))
  have h2 : 256 ^ (s.data.toList.drop (k + 1)).length ≤ 256 ^ 7 := Nat.pow_le_pow_right (by omega) (by rw [List.length_drop]; simp; omega)
  omega

theorem rNum_any (w : World) (s : ByteArray) (h8 : s.size ≤ 8) :
    Calls Tryz.prog 87 #[.string s] w fun r w' => r = .returned (.int .u64 (num s.data.toList)) ∧ w = w' := by
  go_enter Tryz.func87, Tryz.ntmps87
  go_wp2
  go_loop [3, 4] (fun v i => ∃ (q : Int) (x : Nat), i = .int .i64 q ∧ v = .int .u64 x ∧ -1 ≤ q ∧ q < s.size ∧ Hid (x = num (s.data.toList.drop (q + 1).toNat))) (fun _ i => (RowKit.intOf i + 1).toNat)
  case atStart => exact ⟨(s.size : Int) - 1, 0, by first | rfl | go_num, rfl, by omega, by omega, show _ from by rw [show ((s.size : Int) - 1 + 1).toNat = s.size by omega, List.drop_of_length_le (by simp)]; rfl⟩
  case round =>
    obtain ⟨q, x, rfl, rfl, hq0, hq1, hx⟩ := hrel
    by_cases hq : 0 ≤ q
    · obtain ⟨k, rfl⟩ := Int.eq_ofNat_of_zero_le hq
      have hk : k < s.size := by omega
      have hxe := hx.out
      rw [show ((k : Int) + 1).toNat = k + 1 by omega] at hxe
      have hxb : x ≤ 72057594037927935 := by rw [hxe]; exact num_drop_lt s k h8
      have hc := s[k].toNat_lt
      have hnx : Hid (x * 256 + s[k].toNat = num (s.data.toList.drop ((k : Int) - 1 + 1).toNat)) := by
        have e := drop_num s k hk
        rw [← hxe] at e
        show _ = _
        rw [show ((k : Int) - 1 + 1).toNat = k by omega, e]; omega
      clear hxe hq0 hq1
      go_wp2
      go_round
      case rel => exact ⟨(k : Int) - 1, x * 256 + s[k].toNat, by first | rfl | go_num, by go_num, by omega, by omega, hnx⟩
      case measure => simp [RowKit.intOf]
    · have hxe : Hid (x = num s.data.toList) := by
        have e := hx.out
        rw [show (q + 1).toNat = 0 by omega, List.drop_zero] at e
        exact e
      clear hq1
      go_wp2
      go_ret
      exact ⟨by rw [hxe.out]; rfl, rfl⟩

/-- what the reference's Num comes to -/
def refNum (n : Nat) (s : ByteArray) (e : Int) : Int × ByteArray × Int := (wrap64 (num (refStr n s e).1.data.toList), (refStr n s e).2.1, (refStr n s e).2.2)
theorem refStr_size (n : Nat) (s : ByteArray) (e : Int) : (refStr n s e).1.size ≤ n := by
  unfold refStr
  split
  · rw [if_neg (by omega)]
    split
    · simp only [Int.toNat_natCast, ByteArray.size_extract]; omega
    · exact Nat.zero_le _
  · exact Nat.zero_le _

theorem rGetNum_any (w : World) (b : Nat) (s : ByteArray) (e : Int) (n : Nat) (h8 : n ≤ 8) (h : RGetAt w b s e) :
    Calls Tryz.prog 36 #[.pointer (some ⟨b, 0, none⟩), .int .i64 n] w fun r w' => r = .returned (.int .i64 (refNum n s e).1) ∧ RGetAt w' b (refNum n s e).2.1 (refNum n s e).2.2 ∧ Fr b w w' := by
  unfold refNum
  have hz := refStr_size n s e
  have H := rRaw_any w b s e n h
  generalize refStr n s e = q at *
  obtain ⟨t, s', e'⟩ := q
  simp only at *
  have H1 := Lib.hid H
  have hN : ∀ w1, Calls Tryz.prog 87 #[.string t] w1 fun r w' => r = .returned (.int .u64 (num t.data.toList)) ∧ w1 = w' := fun w1 => rNum_any w1 t (by omega)
  have H2 := Lib.hid hN
  have hx : num t.data.toList < 18446744073709551616 := by
    have h1 := num_lt t.data.toList
    have h2 : 256 ^ t.data.toList.length ≤ 256 ^ 8 := Nat.pow_le_pow_right (by omega) (by simp; omega)
    omega
  generalize num t.data.toList = x at *
  clear h H hN hz h8
  go_enter Tryz.func36, Tryz.ntmps36
  go_wp2_with (first | (go_at_call 88; refine H1.out.mono ?_; rintro e w1 ⟨rfl, h1, h2⟩) | (go_at_call 87; refine (H2.out _).mono ?_; rintro e w2 ⟨rfl, rfl⟩))
  go_ret
  exact ⟨rfl, h1, h2⟩

/-- what the reference's Text comes to -/
def refTxt (s : ByteArray) (e : Int) : ByteArray × ByteArray × Int := refStr (refNum 2 s e).1 (refNum 2 s e).2.1 (refNum 2 s e).2.2
def refLeft (s : ByteArray) (e : Int) : Nat := if e = 0 then s.size else 0
def refFin (s : ByteArray) (e : Int) : Int := if e = 0 then (if 0 < s.size then 6 else 0) else e
/-- the same error; without one, the same is left; with one, nothing is left in the program's -/
def Rel (s : ByteArray) (bad : Int) (B : ByteArray) (e : Int) : Prop := e = bad ∧ (bad = 0 → s = B) ∧ (bad ≠ 0 → s = ⟨#[]⟩)
theorem Rel.start (s : ByteArray) : Rel s 0 s 0 := ⟨rfl, fun _ => rfl, fun h => absurd rfl h⟩
theorem Rel.str {s B : ByteArray} {bad e : Int} (h : Rel s bad B e) (n : Int) :
    (refStr n B e).1 = (getStr n s bad).1 ∧ Rel (getStr n s bad).2.1 (getStr n s bad).2.2 (refStr n B e).2.1 (refStr n B e).2.2 := by
  obtain ⟨rfl, h1, h2⟩ := h
  by_cases he : e = 0
  · subst he
    obtain rfl := h1 rfl
    by_cases hn : n < 0
    · have e1 : refStr n s 0 = (⟨#[]⟩, s, 1) := by unfold refStr; rw [if_pos rfl, if_pos hn]
      have e2 : getStr n s 0 = (⟨#[]⟩, ⟨#[]⟩, 1) := by unfold getStr; rw [if_pos rfl, if_pos hn]
      rw [e1, e2]
      exact ⟨rfl, rfl, fun h => absurd h (show ¬ (1 : Int) = 0 by decide), fun _ => rfl⟩
    · by_cases hk : n ≤ s.size
      · have e1 : refStr n s 0 = (s.extract 0 n.toNat, s.extract n.toNat s.size, 0) := by unfold refStr; rw [if_pos rfl, if_neg hn, if_pos hk]
        have e2 : getStr n s 0 = (s.extract 0 n.toNat, s.extract n.toNat s.size, 0) := by unfold getStr; rw [if_pos rfl, if_neg hn, if_pos hk]
        rw [e1, e2]
        exact ⟨rfl, Rel.start _⟩
      · have e1 : refStr n s 0 = (⟨#[]⟩, s, 5) := by unfold refStr; rw [if_pos rfl, if_neg hn, if_neg hk]
        have e2 : getStr n s 0 = (⟨#[]⟩, ⟨#[]⟩, 5) := by unfold getStr; rw [if_pos rfl, if_neg hn, if_neg hk]
        rw [e1, e2]
        exact ⟨rfl, rfl, fun h => absurd h (show ¬ (5 : Int) = 0 by decide), fun _ => rfl⟩
  · have e1 : refStr n B e = (⟨#[]⟩, B, e) := by unfold refStr; rw [if_neg he]
    have e2 : getStr n s e = (⟨#[]⟩, s, e) := by unfold getStr; rw [if_neg he]
    rw [e1, e2]
    exact ⟨rfl, rfl, fun h => absurd h he, h2⟩
theorem take_str (s : ByteArray) (n : Nat) : (s.extract 0 n).data.toList = s.data.toList.take n := by
  rw [Lib.extract_data]; simp
theorem e00 : wrap64 ((PP.num [] : Nat) : Int) = 0 := wrap_small 0 (by omega)
theorem Rel.num {s B : ByteArray} {bad e : Int} (h : Rel s bad B e) (n : Nat) :
    (refNum n B e).1 = (getNum n s bad).1 ∧ Rel (getNum n s bad).2.1 (getNum n s bad).2.2 (refNum n B e).2.1 (refNum n B e).2.2 := by
  obtain ⟨h3, h4⟩ := h.str n
  have e0 : getNum n s bad = (wrap64 (PP.num (getStr n s bad).1.data.toList), (getStr n s bad).2.1, (getStr n s bad).2.2) := by
    unfold getNum getStr
    by_cases he : bad = 0
    · rw [if_pos he, if_pos he, if_neg (show ¬ (n : Int) < 0 by omega)]
      by_cases hk : n ≤ s.size
      · rw [if_pos hk, if_pos (show (n : Int) ≤ s.size by omega)]
        simp only [Int.toNat_natCast, take_str]
      · rw [if_neg hk, if_neg (show ¬ (n : Int) ≤ s.size by omega)]
        show _ = (wrap64 ((PP.num [] : Nat) : Int), _, _)
        rw [e00]
    · rw [if_neg he, if_neg he]
      show _ = (wrap64 ((PP.num [] : Nat) : Int), _, _)
      rw [e00]
  rw [e0]
  unfold refNum
  rw [h3]
  exact ⟨rfl, h4⟩
theorem Rel.txt {s B : ByteArray} {bad e : Int} (h : Rel s bad B e) :
    (refTxt B e).1 = (getTxt s bad).1 ∧ Rel (getTxt s bad).2.1 (getTxt s bad).2.2 (refTxt B e).2.1 (refTxt B e).2.2 := by
  obtain ⟨h1, h2⟩ := h.num 2
  unfold refTxt getTxt
  rw [h1]
  exact h2.str _
theorem Rel.left {s B : ByteArray} {bad e : Int} (h : Rel s bad B e) : refLeft B e = s.size := by
  obtain ⟨rfl, h1, h2⟩ := h
  unfold refLeft
  by_cases he : e = 0
  · rw [if_pos he, h1 he]
  · rw [if_neg he, h2 he]; rfl
theorem Rel.fin {s B : ByteArray} {bad e : Int} (h : Rel s bad B e) : refFin B e = getFin s bad := by
  obtain ⟨rfl, h1, h2⟩ := h
  unfold refFin getFin
  by_cases he : e = 0
  · subst he; rw [if_pos rfl, h1 rfl]
  · rw [if_neg he, h2 he, if_neg (by decide)]


end Go.Proofs.YthihjkdankbnjaaGreat.PP
