/-
  The reference's Get: Raw, Num; held against the program's. (By gen_pack.py.)
-/
import Derived.Test.YtpbaodjmkdcihaaLk0
namespace Go.Proofs.Ytpbaodjmkdcihaa.PP
open Go Go.RowKit Go.Lib Go.Proofs.Ytpbaodjmkdcihaa.P0

/-- what the reference's Raw comes to -/
def refStr (n : Int) (s : ByteArray) (e : Int) : ByteArray × ByteArray × Int :=
  if e = 0 then (if n < 0 then (⟨#[]⟩, s, 1) else if n ≤ s.size then (s.extract 0 n.toNat, s.extract n.toNat s.size, 0) else (⟨#[]⟩, s, 5)) else (⟨#[]⟩, s, e)

theorem drop_num (s : ByteArray) (k : Nat) (h : k < s.size) : num (s.data.toList.drop k) = s[k].toNat + 256 * num (s.data.toList.drop (k + 1)) := by
  rw [List.drop_eq_getElem_cons (by simpa using h)]; rfl
theorem num_drop_lt (s : ByteArray) (k : Nat) (h8 : s.size ≤ 8) : num (s.data.toList.drop (k + 1)) ≤ 72057594037927935 := by
  have h1 := num_lt (s.data.toList.drop (k + 1))
  have h2 : 256 ^ (s.data.toList.drop (k + 1)).length ≤ 256 ^ 7 := Nat.pow_le_pow_right (by omega) (by rw [List.length_drop]; simp; omega)
  omega

theorem rNum_any (w : World) (s : ByteArray) (h8 : s.size ≤ 8) :
    Calls Try.prog 27 #[.string s] w fun r w' => r = .returned (.int .u64 (num s.data.toList)) ∧ w = w' := by
  go_enter Try.func27, Try.ntmps27
  go_wp2
  go_loop [3, 4] (fun v i => ∃ (q : Int) (x : Nat), i = .int .i64 q ∧ v = .int .u64 x ∧ -1 ≤ q ∧ q < s.size ∧ Hid (x = num (s.data.toList.drop (q + 1).toNat))) (fun _ i => (RowKit.intOf i + 1).toNat)
  case atStart => exact ⟨(s.size : Int) - 1, 0, by first | rfl | go_num, rfl, by omega, by omega, show _ from by rw [show ((s.size : Int) - 1 + 1).toNat = s.size by omega, List.drop_of_length_le (by simp)]; rfl⟩
  case round =>
    obtain ⟨q, x, rfl, rfl, hq0, hq1, hx⟩ := hrel
    by_cases hq : 0 ≤ q
    · obtain ⟨k, rfl⟩ := Int.eq_ofNat_of_zero_le hq
      have hk : k < s.size := by omega
      have hxe := hx.out
      rw [show ((k : Int) + 1).toNat = k + 1 by omega] at hxe
      have hxb : x ≤ 72057594037927935 := by rw [hxe]; exact num_drop_lt s k h8
      have hc := s[k].toNat_lt
      have hnx : Hid (x * 256 + s[k].toNat = num (s.data.toList.drop ((k : Int) - 1 + 1).toNat)) := by
        have e := drop_num s k hk
        rw [← hxe] at e
        show _ = _
        rw [show ((k : Int) - 1 + 1).toNat = k by omega, e]; omega
      clear hxe hq0 hq1
      go_wp2
      go_round
      case rel => exact ⟨(k : Int) - 1, x * 256 + s[k].toNat, by first | rfl | go_num, by go_num, by omega, by omega, hnx⟩
      case measure => simp [RowKit.intOf]
    · have hxe : Hid (x = num s.data.toList) := by
        have e := hx.out
        rw [show (q + 1).toNat = 0 by omega, List.drop_zero] at e
        exact e
      clear hq1
      go_wp2
      go_ret
      exact ⟨by rw [hxe.out]; rfl, rfl⟩

/-- what the reference's Num comes to -/
def refNum (n : Nat) (s : ByteArray) (e : Int) : Int × ByteArray × Int := (wrap64 (num (refStr n s e).1.data.toList), (refStr n s e).2.1, (refStr n s e).2.2)
theorem refStr_size (n : Nat) (s : ByteArray) (e : Int) : (refStr n s e).1.size ≤ n := by
  unfold refStr
  split
  · rw [if_neg (by omega)]
    split
    · simp only [Int.toNat_natCast, ByteArray.size_extract]; omega
    · exact Nat.zero_le _
  · exact Nat.zero_le _

/-- what the reference's Text comes to -/
def refTxt (s : ByteArray) (e : Int) : ByteArray × ByteArray × Int := refStr (refNum 2 s e).1 (refNum 2 s e).2.1 (refNum 2 s e).2.2
def refLeft (s : ByteArray) (e : Int) : Nat := if e = 0 then s.size else 0
def refFin (s : ByteArray) (e : Int) : Int := if e = 0 then (if 0 < s.size then 6 else 0) else e
/-- the same error; without one, the same is left; with one, nothing is left in the program's -/
def Rel (s : ByteArray) (bad : Int) (B : ByteArray) (e : Int) : Prop := e = bad ∧ (bad = 0 → s = B) ∧ (bad ≠ 0 → s = ⟨#[]⟩)
theorem Rel.start (s : ByteArray) : Rel s 0 s 0 := ⟨rfl, fun _ => rfl, fun h => absurd rfl h⟩
theorem Rel.str {s B : ByteArray} {bad e : Int} (h : Rel s bad B e) (n : Int) :
    (refStr n B e).1 = (getStr n s bad).1 ∧ Rel (getStr n s bad).2.1 (getStr n s bad).2.2 (refStr n B e).2.1 (refStr n B e).2.2 := by
  obtain ⟨rfl, h1, h2⟩ := h
  by_cases he : e = 0
  · subst he
    obtain rfl := h1 rfl
    by_cases hn : n < 0
    · have e1 : refStr n s 0 = (⟨#[]⟩, s, 1) := by unfold refStr; rw [if_pos rfl, if_pos hn]
      have e2 : getStr n s 0 = (⟨#[]⟩, ⟨#[]⟩, 1) := by unfold getStr; rw [if_pos rfl, if_pos hn]
      rw [e1, e2]
      exact ⟨rfl, rfl, fun h => absurd h (show ¬ (1 : Int) = 0 by decide), fun _ => rfl⟩
    · by_cases hk : n ≤ s.size
      · have e1 : refStr n s 0 = (s.extract 0 n.toNat, s.extract n.toNat s.size, 0) := by unfold refStr; rw [if_pos rfl, if_neg hn, if_pos hk]
        have e2 : getStr n s 0 = (s.extract 0 n.toNat, s.extract n.toNat s.size, 0) := by unfold getStr; rw [if_pos rfl, if_neg hn, if_pos hk]
        rw [e1, e2]
        exact ⟨rfl, Rel.start _⟩
      · have e1 : refStr n s 0 = (⟨#[]⟩, s, 5) := by unfold refStr; rw [if_pos rfl, if_neg hn, if_neg hk]
        have e2 : getStr n s 0 = (⟨#[]⟩, ⟨#[]⟩, 5) := by unfold getStr; rw [if_pos rfl, if_neg hn, if_neg hk]
        rw [e1, e2]
        exact ⟨rfl, rfl, fun h => absurd h (show ¬ (5 : Int) = 0 by decide), fun _ => rfl⟩
  · have e1 : refStr n B e = (⟨#[]⟩, B, e) := by unfold refStr; rw [if_neg he]
    have e2 : getStr n s e = (⟨#[]⟩, s, e) := by unfold getStr; rw [if_neg he]
    rw [e1, e2]
    exact ⟨rfl, rfl, fun h => absurd h he, h2⟩
theorem take_str (s : ByteArray) (n : Nat) : (s.extract 0 n).data.toList = s.data.toList.take n := by
  rw [Lib.extract_data]; simp
theorem e00 : wrap64 ((PP.num [] : Nat) : Int) = 0 := wrap_small 0 (by omega)
theorem Rel.num {s B : ByteArray} {bad e : Int} (h : Rel s bad B e) (n : Nat) :
    (refNum n B e).1 = (getNum n s bad).1 ∧ Rel (getNum n s bad).2.1 (getNum n s bad).2.2 (refNum n B e).2.1 (refNum n B e).2.2 := by
  obtain ⟨h3, h4⟩ := h.str n
  have e0 : getNum n s bad = (wrap64 (PP.num (getStr n s bad).1.data.toList), (getStr n s bad).2.1, (getStr n s bad).2.2) := by
    unfold getNum getStr
    by_cases he : bad = 0
    · rw [if_pos he, if_pos he, if_neg (show ¬ (n : Int) < 0 by omega)]
      by_cases hk : n ≤ s.size
      · rw [if_pos hk, if_pos (show (n : Int) ≤ s.size by omega)]
        simp only [Int.toNat_natCast, take_str]
      · rw [if_neg hk, if_neg (show ¬ (n : Int) ≤ s.size by omega)]
        show _ = (wrap64 ((PP.num [] : Nat) : Int), _, _)
        rw [e00]
    · rw [if_neg he, if_neg he]
      show _ = (wrap64 ((PP.num [] : Nat) : Int), _, _)
      rw [e00]
  rw [e0]
  unfold refNum
  rw [h3]
  exact ⟨rfl, h4⟩
theorem Rel.txt {s B : ByteArray} {bad e : Int} (h : Rel s bad B e) :
    (refTxt B e).1 = (getTxt s bad).1 ∧ Rel (getTxt s bad).2.1 (getTxt s bad).2.2 (refTxt B e).2.1 (refTxt B e).2.2 := by
  obtain ⟨h1, h2⟩ := h.num 2
  unfold refTxt getTxt
  rw [h1]
  exact h2.str _
theorem Rel.left {s B : ByteArray} {bad e : Int} (h : Rel s bad B e) : refLeft B e = s.size := by
  obtain ⟨rfl, h1, h2⟩ := h
  unfold refLeft
  by_cases he : e = 0
  · rw [if_pos he, h1 he]
  · rw [if_neg he, h2 he]; rfl
theorem Rel.fin {s B : ByteArray} {bad e : Int} (h : Rel s bad B e) : refFin B e = getFin s bad := by
  obtain ⟨rfl, h1, h2⟩ := h
  unfold refFin getFin
  by_cases he : e = 0
  · subst he; rw [if_pos rfl, h1 rfl]
  · rw [if_neg he, h2 he, if_neg (by decide)]


end Go.Proofs.Ytpbaodjmkdcihaa.PP
