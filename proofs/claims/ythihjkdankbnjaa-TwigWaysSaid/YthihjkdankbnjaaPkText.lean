/-
  Package pack: Put.Text.
-/
import Derived.Test.YthihjkdankbnjaaPkHalf
import Derived.Test.YthihjkdankbnjaaPkRaw
namespace Go.Proofs.Ythihjkdankbnjaa.PP
open Go Go.RowKit Go.Lib Go.Proofs.Ythihjkdankbnjaa.P0

theorem text_long (w : World) (b : Nat) (xs : List UInt8) (bad : Int) (s : ByteArray) (hs : ¬ s.size ≤ 65535) (h : PutIs w b xs bad) :
    Calls Try.prog 19 #[.pointer (some ⟨b, 0, none⟩), .string s] w fun r w' => r = .returned (.pointer (some ⟨b, 0, none⟩)) ∧ PutIs w' b (stepT s.data.toList xs bad).1 (stepT s.data.toList xs bad).2 ∧ Fr b w w' := by
  have H : Calls Try.prog 30 #[.pointer (some ⟨b, 0, none⟩), .int .i64 2] w fun r w' => r = .returned (.pointer (some ⟨b, 0, none⟩)) ∧ PutIs w' b (stepT s.data.toList xs bad).1 (stepT s.data.toList xs bad).2 ∧ Fr b w w' := by
    by_cases hbad : bad = 0
    · subst hbad
      refine (fail_first w b xs 2 h).mono fun _ _ ⟨a, c, d⟩ => ⟨a, ?_, d⟩
      simp only [stepT, if_true, Array.length_toList]
      rw [if_neg (show ¬ s.data.size ≤ 65535 from hs)]; exact c
    · exact (fail_later w b xs 2 bad h hbad).mono fun _ _ ⟨a, c⟩ => ⟨a, by simp only [stepT, if_neg hbad]; exact c ▸ h, c ▸ Fr.refl _ _⟩
  have k1 : decide ((65535 : Int) < (s.size : Int)) = true := by simp; omega
  go_enter Try.func19, Try.ntmps19
  go_wp2_with (go_at_call 30; refine H.mono ?_; rintro e w' ⟨rfl, h1, h2⟩)
  go_ret
  exact ⟨rfl, h1, h2⟩

theorem text_short (w : World) (b : Nat) (xs : List UInt8) (bad : Int) (s : ByteArray) (hs : s.size ≤ 65535) (hx : xs.length + s.size + 2 ≤ 140737488355000) (h : PutIs w b xs bad) :
    Calls Try.prog 19 #[.pointer (some ⟨b, 0, none⟩), .string s] w fun r w' => r = .returned (.pointer (some ⟨b, 0, none⟩)) ∧ PutIs w' b (stepT s.data.toList xs bad).1 (stepT s.data.toList xs bad).2 ∧ Fr b w w' := by
  have hl : s.data.size = s.size := rfl
  have e1 : stepN 2 (s.size : Int) xs bad = (if bad = 0 then (xs ++ low 2 s.size, 0) else (xs, bad)) := by
    by_cases hbad : bad = 0
    · subst hbad; rw [stepN_fits (by omega) (by omega)]; simp
    · rw [stepN_bad hbad, if_neg hbad]
  have e2 : stepR s.data.toList (stepN 2 (s.size : Int) xs bad).1 (stepN 2 (s.size : Int) xs bad).2 = stepT s.data.toList xs bad := by
    rw [e1]
    by_cases hbad : bad = 0
    · subst hbad; simp [stepR, stepT, hl, hs]
    · simp [stepR, stepT, hbad]
  have e3 : (stepN 2 (s.size : Int) xs bad).1.length ≤ xs.length + 2 := by
    rw [e1]; split <;> simp [low_length]
  have H1 := Lib.hid (putHalf_any w b xs (s.size : Int) bad (by omega) (by omega) h)
  have H2a : (∀ w', PutIs w' b (stepN 2 (s.size : Int) xs bad).1 (stepN 2 (s.size : Int) xs bad).2 → Calls Try.prog 31 #[.pointer (some ⟨b, 0, none⟩), .string s] w' fun r w'' => r = .returned (.pointer (some ⟨b, 0, none⟩)) ∧ PutIs w'' b (stepT s.data.toList xs bad).1 (stepT s.data.toList xs bad).2 ∧ Fr b w' w'') :=
    fun w' hp => by rw [← e2]; exact putRaw_any w' b _ _ s (by omega) hp
  have H2 := Lib.hid H2a
  clear e1 e2 e3 hl H2a
  have k1 : decide ((65535 : Int) < (s.size : Int)) = false := by simp; omega
  go_enter Try.func19, Try.ntmps19
  go_wp2_with (first | (go_at_call 18; refine H1.out.mono ?_; rintro e w1 ⟨rfl, h1, h2⟩) | (go_at_call 31; refine (H2.out _ h1).mono ?_; rintro e w2 ⟨rfl, h3, h4⟩))
  go_ret
  exact ⟨rfl, h3, h2.trans h4⟩

theorem putText_any (w : World) (b : Nat) (xs : List UInt8) (bad : Int) (s : ByteArray) (hx : xs.length + s.size + 2 ≤ 140737488355000) (h : PutIs w b xs bad) :
    Calls Try.prog 19 #[.pointer (some ⟨b, 0, none⟩), .string s] w fun r w' => r = .returned (.pointer (some ⟨b, 0, none⟩)) ∧ PutIs w' b (stepT s.data.toList xs bad).1 (stepT s.data.toList xs bad).2 ∧ Fr b w w' := by
  by_cases hs : s.size ≤ 65535
  · exact text_short w b xs bad s hs hx h
  · exact text_long w b xs bad s hs h


end Go.Proofs.Ythihjkdankbnjaa.PP
