/-
  Package pack's Get, by contracts: From, Byte, Half, Word, Int, Raw, Text, End.
-/
import Derived.Test.YtadcmjcafimkeaaDoorGetB
namespace Go.Proofs.YtadcmjcafimkeaaDoor.P1
open Go Go.RowKit Go.Lib

theorem getFrom_any (w : World) (s : ByteArray) :
    Calls Tryd.prog 23 #[.string s] w fun r w' => r = .returned (.pointer (some ⟨w.heap.size, 0, none⟩)) ∧ GetAt w' w.heap.size s 0 ∧ Below w.heap.size w w' ∧ w'.heap.size = w.heap.size + 1 := by
  have h : GetAt (w.alloc (.cells #[.string s, .int .i64 0] 62)) w.heap.size s 0 := new_at w _ _
  have hB : Below w.heap.size w (w.alloc (.cells #[.string s, .int .i64 0] 62)) := (Below.refl _ w).alloc (Nat.le_refl _) _
  have hz : (w.alloc (.cells #[.string s, .int .i64 0] 62)).heap.size = w.heap.size + 1 := by simp
  have H := Lib.hid (And.intro h (And.intro hB hz))
  clear h hB hz
  go_enter Tryd.func23, Tryd.ntmps23
  go_wp2
  go_ret
  exact ⟨rfl, H.out⟩

theorem getByte_any (w : World) (b : Nat) (s : ByteArray) (bad : Int) (h : GetAt w b s bad) :
    Calls Tryd.prog 24 #[.pointer (some ⟨b, 0, none⟩)] w fun r w' => r = .returned (.int .i64 (getNum 1 s bad).1) ∧ GetAt w' b (getNum 1 s bad).2.1 (getNum 1 s bad).2.2 ∧ Fr b w w' := by
  have H := Lib.hid (getNumber_any w b s bad 1 (by omega) h)
  clear h
  go_enter Tryd.func24, Tryd.ntmps24
  go_wp2_with (go_at_call 46; refine H.out.mono ?_; rintro e w' ⟨rfl, h1, h2⟩)
  go_ret
  exact ⟨rfl, h1, h2⟩
theorem getByte_nil (w : World) :
    Calls Tryd.prog 24 #[.pointer none] w fun r w' => r = .returned (.int .i64 0) ∧ w = w' := by
  go_enter Tryd.func24, Tryd.ntmps24
  go_wp2_with (go_at_call 46; refine (getNumber_nil _ 1).mono ?_; rintro e w' ⟨rfl, rfl⟩)
  go_ret
  exact ⟨rfl, rfl⟩

theorem getHalf_any (w : World) (b : Nat) (s : ByteArray) (bad : Int) (h : GetAt w b s bad) :
    Calls Tryd.prog 26 #[.pointer (some ⟨b, 0, none⟩)] w fun r w' => r = .returned (.int .i64 (getNum 2 s bad).1) ∧ GetAt w' b (getNum 2 s bad).2.1 (getNum 2 s bad).2.2 ∧ Fr b w w' := by
  have H := Lib.hid (getNumber_any w b s bad 2 (by omega) h)
  clear h
  go_enter Tryd.func26, Tryd.ntmps26
  go_wp2_with (go_at_call 46; refine H.out.mono ?_; rintro e w' ⟨rfl, h1, h2⟩)
  go_ret
  exact ⟨rfl, h1, h2⟩
theorem getHalf_nil (w : World) :
    Calls Tryd.prog 26 #[.pointer none] w fun r w' => r = .returned (.int .i64 0) ∧ w = w' := by
  go_enter Tryd.func26, Tryd.ntmps26
  go_wp2_with (go_at_call 46; refine (getNumber_nil _ 2).mono ?_; rintro e w' ⟨rfl, rfl⟩)
  go_ret
  exact ⟨rfl, rfl⟩

theorem getWord_any (w : World) (b : Nat) (s : ByteArray) (bad : Int) (h : GetAt w b s bad) :
    Calls Tryd.prog 27 #[.pointer (some ⟨b, 0, none⟩)] w fun r w' => r = .returned (.int .i64 (getNum 4 s bad).1) ∧ GetAt w' b (getNum 4 s bad).2.1 (getNum 4 s bad).2.2 ∧ Fr b w w' := by
  have H := Lib.hid (getNumber_any w b s bad 4 (by omega) h)
  clear h
  go_enter Tryd.func27, Tryd.ntmps27
  go_wp2_with (go_at_call 46; refine H.out.mono ?_; rintro e w' ⟨rfl, h1, h2⟩)
  go_ret
  exact ⟨rfl, h1, h2⟩
theorem getWord_nil (w : World) :
    Calls Tryd.prog 27 #[.pointer none] w fun r w' => r = .returned (.int .i64 0) ∧ w = w' := by
  go_enter Tryd.func27, Tryd.ntmps27
  go_wp2_with (go_at_call 46; refine (getNumber_nil _ 4).mono ?_; rintro e w' ⟨rfl, rfl⟩)
  go_ret
  exact ⟨rfl, rfl⟩

theorem getInt_any (w : World) (b : Nat) (s : ByteArray) (bad : Int) (h : GetAt w b s bad) :
    Calls Tryd.prog 28 #[.pointer (some ⟨b, 0, none⟩)] w fun r w' => r = .returned (.int .i64 (getNum 8 s bad).1) ∧ GetAt w' b (getNum 8 s bad).2.1 (getNum 8 s bad).2.2 ∧ Fr b w w' := by
  have H := Lib.hid (getNumber_any w b s bad 8 (by omega) h)
  clear h
  go_enter Tryd.func28, Tryd.ntmps28
  go_wp2_with (go_at_call 46; refine H.out.mono ?_; rintro e w' ⟨rfl, h1, h2⟩)
  go_ret
  exact ⟨rfl, h1, h2⟩
theorem getInt_nil (w : World) :
    Calls Tryd.prog 28 #[.pointer none] w fun r w' => r = .returned (.int .i64 0) ∧ w = w' := by
  go_enter Tryd.func28, Tryd.ntmps28
  go_wp2_with (go_at_call 46; refine (getNumber_nil _ 8).mono ?_; rintro e w' ⟨rfl, rfl⟩)
  go_ret
  exact ⟨rfl, rfl⟩

/-- what Raw comes to -/
def getStr (n : Int) (s : ByteArray) (bad : Int) : ByteArray × ByteArray × Int :=
  if bad = 0 then (if n < 0 then (⟨#[]⟩, ⟨#[]⟩, 1) else if n ≤ s.size then (s.extract 0 n.toNat, s.extract n.toNat s.size, 0) else (⟨#[]⟩, ⟨#[]⟩, 5)) else (⟨#[]⟩, s, bad)

theorem getRaw_any (w : World) (b : Nat) (s : ByteArray) (bad n : Int) (h : GetAt w b s bad) :
    Calls Tryd.prog 31 #[.pointer (some ⟨b, 0, none⟩), .int .i64 n] w fun r w' => r = .returned (.string (getStr n s bad).1) ∧ GetAt w' b (getStr n s bad).2.1 (getStr n s bad).2.2 ∧ Fr b w w' := by
  unfold getStr
  by_cases hbad : bad = 0
  · subst hbad
    rw [if_pos rfl]
    by_cases hn : n < 0
    · rw [if_pos hn]
      exact getRaw_neg w b s n hn h
    · obtain ⟨k, rfl⟩ := Int.eq_ofNat_of_zero_le (show 0 ≤ n by omega)
      rw [if_neg hn]
      by_cases hk : k ≤ s.size
      · rw [if_pos (by omega)]
        exact getRaw_ok w b s k hk h
      · rw [if_neg (by omega)]
        exact getRaw_over w b s k (by omega) h
  · rw [if_neg hbad]
    exact (getRaw_bad w b s bad n hbad h).mono fun _ _ ⟨a, c⟩ => ⟨a, c ▸ h, c ▸ Fr.refl _ _⟩

/-- what Text comes to -/
def getTxt (s : ByteArray) (bad : Int) : ByteArray × ByteArray × Int := getStr (getNum 2 s bad).1 (getNum 2 s bad).2.1 (getNum 2 s bad).2.2

theorem getText_any (w : World) (b : Nat) (s : ByteArray) (bad : Int) (h : GetAt w b s bad) :
    Calls Tryd.prog 29 #[.pointer (some ⟨b, 0, none⟩)] w fun r w' => r = .returned (.string (getTxt s bad).1) ∧ GetAt w' b (getTxt s bad).2.1 (getTxt s bad).2.2 ∧ Fr b w w' := by
  unfold getTxt
  have H := Lib.hid (getHalf_any w b s bad h)
  generalize getNum 2 s bad = q at *
  clear h
  go_enter Tryd.func29, Tryd.ntmps29
  go_wp2_with (first | (go_at_call 26; refine H.out.mono ?_; rintro e w' ⟨rfl, h1, h2⟩) | (go_at_call 31; refine (getRaw_any _ b q.2.1 q.2.2 q.1 h1).mono ?_; rintro e w2 ⟨rfl, h3, h4⟩))
  go_ret
  exact ⟨rfl, h3, h2.trans h4⟩
theorem getText_nil (w : World) :
    Calls Tryd.prog 29 #[.pointer none] w fun r w' => r = .returned (.string ⟨#[]⟩) ∧ w = w' := by
  go_enter Tryd.func29, Tryd.ntmps29
  go_wp2_with (first | (go_at_call 26; refine (getHalf_nil _).mono ?_; rintro e w' ⟨rfl, rfl⟩) | (go_at_call 31; refine (getRaw_nil _ _).mono ?_; rintro e w2 ⟨rfl, rfl⟩))
  go_ret
  exact ⟨rfl, rfl⟩

/-- what End comes to -/
def getFin (s : ByteArray) (bad : Int) : Int := if 0 < s.size then 6 else bad

theorem getEnd_any (w : World) (b : Nat) (s : ByteArray) (bad : Int) (h : GetAt w b s bad) :
    Calls Tryd.prog 36 #[.pointer (some ⟨b, 0, none⟩)] w fun r w' => r = .returned (.int .i64 (getFin s bad)) ∧ Fr b w w' := by
  unfold getFin
  have H1 := Lib.hid (getLeft_any w b s bad h)
  by_cases hs : 0 < s.size
  · rw [if_pos hs]
    have k : decide ((0 : Int) < (s.size : Int)) = true := by simpa using hs
    have k2 : decide (0 < s.size) = true := by simpa using hs
    have H2 := Lib.hid (getFail_any w b s bad 6 h)
    clear h hs
    go_enter Tryd.func36, Tryd.ntmps36
    go_wp2_with (first | (go_at_call 33; refine H1.out.mono ?_; rintro e w' ⟨rfl, rfl⟩) | (go_at_call 48; refine H2.out.mono ?_; rintro e w2 ⟨rfl, h3, h4⟩) | (go_at_call 35; refine (getBad_any _ b _ 6 h3).mono ?_; rintro e w3 ⟨rfl, rfl⟩))
    go_ret
    exact ⟨rfl, h4⟩
  · rw [if_neg hs]
    have k : decide ((0 : Int) < (s.size : Int)) = false := decide_eq_false (by omega)
    have k2 : decide (0 < s.size) = false := decide_eq_false hs
    have H2 := Lib.hid (getBad_any w b s bad h)
    clear h hs
    go_enter Tryd.func36, Tryd.ntmps36
    go_wp2_with (first | (go_at_call 33; refine H1.out.mono ?_; rintro e w' ⟨rfl, rfl⟩) | (go_at_call 35; refine H2.out.mono ?_; rintro e w3 ⟨rfl, rfl⟩))
    go_ret
    exact ⟨rfl, Fr.refl _ _⟩
theorem getEnd_nil (w : World) :
    Calls Tryd.prog 36 #[.pointer none] w fun r w' => r = .returned (.int .i64 1) ∧ w = w' := by
  go_enter Tryd.func36, Tryd.ntmps36
  go_wp2_with (first | (go_at_call 33; refine (getLeft_nil _).mono ?_; rintro e w' ⟨rfl, rfl⟩) | (go_at_call 35; refine (getBad_nil _).mono ?_; rintro e w3 ⟨rfl, rfl⟩))
  go_ret
  exact ⟨rfl, rfl⟩

end Go.Proofs.YtadcmjcafimkeaaDoor.P1
