/-
  Texts of the proof of SaidEdit9, side by side: PkByte, PkHalf, PkRaw, PkText, PkEnd.
-/
import Derived.Test.YtloajjaaidmaiaaGreatMpE11
/-
  Package pack: Put.Byte.
-/
namespace Go.Proofs.YtloajjaaidmaiaaGreat.PP
open Go Go.RowKit Go.Lib Go.Proofs.YtloajjaaidmaiaaGreat.P0

theorem putByte_any (w : World) (b : Nat) (xs : List UInt8) (v bad : Int) (hv : v < 9223372036854775808) (hx : xs.length ≤ 140737488355000) (h : PutIs w b xs bad) :
    Calls Tryz.prog 30 #[.pointer (some ⟨b, 0, none⟩), .int .i64 v] w fun r w' => r = .returned (.pointer (some ⟨b, 0, none⟩)) ∧ PutIs w' b (stepN 1 v xs bad).1 (stepN 1 v xs bad).2 ∧ Fr b w w' := by
  have H := narrow_1 w b xs v bad hv hx h
  clear hv
  go_enter Tryz.func30, Tryz.ntmps30
  go_wp2_with (go_at_call 86; refine H.mono ?_; rintro e w' ⟨rfl, h1, h2⟩)
  go_ret
  exact ⟨rfl, h1, h2⟩


end Go.Proofs.YtloajjaaidmaiaaGreat.PP

/-
  Package pack: Put.Half.
-/
namespace Go.Proofs.YtloajjaaidmaiaaGreat.PP
open Go Go.RowKit Go.Lib Go.Proofs.YtloajjaaidmaiaaGreat.P0

theorem putHalf_any (w : World) (b : Nat) (xs : List UInt8) (v bad : Int) (hv : v < 9223372036854775808) (hx : xs.length ≤ 140737488355000) (h : PutIs w b xs bad) :
    Calls Tryz.prog 88 #[.pointer (some ⟨b, 0, none⟩), .int .i64 v] w fun r w' => r = .returned (.pointer (some ⟨b, 0, none⟩)) ∧ PutIs w' b (stepN 2 v xs bad).1 (stepN 2 v xs bad).2 ∧ Fr b w w' := by
  have H := narrow_2 w b xs v bad hv hx h
  clear hv
  go_enter Tryz.func88, Tryz.ntmps88
  go_wp2_with (go_at_call 86; refine H.mono ?_; rintro e w' ⟨rfl, h1, h2⟩)
  go_ret
  exact ⟨rfl, h1, h2⟩


end Go.Proofs.YtloajjaaidmaiaaGreat.PP

/-
  Package pack: Put.Raw.
-/
namespace Go.Proofs.YtloajjaaidmaiaaGreat.PP
open Go Go.RowKit Go.Lib Go.Proofs.YtloajjaaidmaiaaGreat.P0

theorem raw_bad (w : World) (b : Nat) (xs : List UInt8) (bad : Int) (s : ByteArray) (h : PutIs w b xs bad) (hbad : bad ≠ 0) :
    Calls Tryz.prog 89 #[.pointer (some ⟨b, 0, none⟩), .string s] w fun r w' => r = .returned (.pointer (some ⟨b, 0, none⟩)) ∧ w = w' := by
  go_enter Tryz.func89, Tryz.ntmps89
  go_wp2_with (go_at_call 119; refine (ready_bad _ b xs bad h hbad).mono ?_; rintro e w' ⟨rfl, rfl⟩)
  go_ret
  exact ⟨rfl, rfl⟩
theorem raw_nil (w : World) (s : ByteArray) :
    Calls Tryz.prog 89 #[.pointer none, .string s] w fun r w' => r = .returned (.pointer none) ∧ w = w' := by
  go_enter Tryz.func89, Tryz.ntmps89
  go_wp2_with (go_at_call 119; refine (ready_nil _).mono ?_; rintro e w' ⟨rfl, rfl⟩)
  go_ret
  exact ⟨rfl, rfl⟩
theorem raw_ok (w : World) (b : Nat) (xs : List UInt8) (s : ByteArray) (hx : xs.length + s.size ≤ 140737488355000) (h : PutIs w b xs 0) :
    Calls Tryz.prog 89 #[.pointer (some ⟨b, 0, none⟩), .string s] w fun r w' => r = .returned (.pointer (some ⟨b, 0, none⟩)) ∧ PutOwn w' b (xs ++ s.data.toList) 0 ∧ Fr b w w' := by
  obtain ⟨i0, hi, hz0, hz1, hz2⟩ := info_parts infoByte
  go_enter Tryz.func89, Tryz.ntmps89
  go_wp2_with (first | (go_at_call 119; refine (ready_ok _ b xs h).mono ?_; rintro e w1 ⟨rfl, ho, hb⟩; have hlt := ho.lt; obtain ⟨v, h1, h2⟩ := ho; have c0 : w1.cell? ⟨b, 0, none⟩ = some v := (by rw [cell_at h1]; rfl); have H1 := Lib.hid h1; clear h1) | (at_builtin; go_must (refine wpList_append_own_string _ rfl (.tmp 11) (.tmp 12) 62 9 rfl (b + 1) 5 i0 Tryz.underlying62 Tryz.underlying9 hi hz0 hz1 hz2 _ _ _ rfl h2 s rfl ?c1 ?c2 ?c3 ?_)))
  case c1 => unfold maxLen; omega
  case c2 => omega
  case c3 => omega
  intro v' w2 hown' hgrow _
  obtain ⟨sa, sn, sc, rfl⟩ := owns_shape hown'
  have hblk := put_block H1.out h2 (by omega) hgrow
  have hb2 : Fr b w w2 := hb.grown hlt h2 (by omega) hgrow
  have hys : w2.ownsRow (b + 1) 5 1 (.slice sa sn sc) (xs ++ s.data.toList).length (cells (xs ++ s.data.toList)) := by
    rw [cells_append, List.length_append]; exact hown'
  have hst := put_stored hblk hys
  have c0' : w2.cell? ⟨b, 0, none⟩ = some v := by rw [cell_at hblk]; rfl
  have f0' : w2.frozen? ⟨b, 0, none⟩ = false := free_at hblk 0
  have hb3 : Fr b w (w2.setCell ⟨b, 0, none⟩ (.slice sa sn sc)) := hb2.setCell _ _
  clear hblk hb2 hys hown' hgrow c0 h2
  go_wp2
  go_ret
  exact ⟨rfl, hst, hb3⟩

theorem putRaw_any (w : World) (b : Nat) (xs : List UInt8) (bad : Int) (s : ByteArray) (hx : xs.length + s.size ≤ 140737488355000) (h : PutIs w b xs bad) :
    Calls Tryz.prog 89 #[.pointer (some ⟨b, 0, none⟩), .string s] w fun r w' => r = .returned (.pointer (some ⟨b, 0, none⟩)) ∧ PutIs w' b (stepR s.data.toList xs bad).1 (stepR s.data.toList xs bad).2 ∧ Fr b w w' := by
  by_cases hbad : bad = 0
  · subst hbad
    exact (raw_ok w b xs s hx h).mono fun _ _ ⟨a, c, d⟩ => ⟨a, .inl (by simpa [stepR] using c), d⟩
  · exact (raw_bad w b xs bad s h hbad).mono fun _ _ ⟨a, c⟩ => ⟨a, by simp only [stepR, if_neg hbad]; exact c ▸ h, c ▸ Fr.refl _ _⟩


end Go.Proofs.YtloajjaaidmaiaaGreat.PP

/-
  Package pack: Put.Text.
-/
namespace Go.Proofs.YtloajjaaidmaiaaGreat.PP
open Go Go.RowKit Go.Lib Go.Proofs.YtloajjaaidmaiaaGreat.P0

theorem text_long (w : World) (b : Nat) (xs : List UInt8) (bad : Int) (s : ByteArray) (hs : ¬ s.size ≤ 65535) (h : PutIs w b xs bad) :
    Calls Tryz.prog 31 #[.pointer (some ⟨b, 0, none⟩), .string s] w fun r w' => r = .returned (.pointer (some ⟨b, 0, none⟩)) ∧ PutIs w' b (stepT s.data.toList xs bad).1 (stepT s.data.toList xs bad).2 ∧ Fr b w w' := by
  have H : Calls Tryz.prog 87 #[.pointer (some ⟨b, 0, none⟩), .int .i64 2] w fun r w' => r = .returned (.pointer (some ⟨b, 0, none⟩)) ∧ PutIs w' b (stepT s.data.toList xs bad).1 (stepT s.data.toList xs bad).2 ∧ Fr b w w' := by
    by_cases hbad : bad = 0
    · subst hbad
      refine (fail_first w b xs 2 h).mono fun _ _ ⟨a, c, d⟩ => ⟨a, ?_, d⟩
      simp only [stepT, if_true, Array.length_toList]
      rw [if_neg (show ¬ s.data.size ≤ 65535 from hs)]; exact c
    · exact (fail_later w b xs 2 bad h hbad).mono fun _ _ ⟨a, c⟩ => ⟨a, by simp only [stepT, if_neg hbad]; exact c ▸ h, c ▸ Fr.refl _ _⟩
  have k1 : decide ((65535 : Int) < (s.size : Int)) = true := by simp; omega
  go_enter Tryz.func31, Tryz.ntmps31
  go_wp2_with (go_at_call 87; refine H.mono ?_; rintro e w' ⟨rfl, h1, h2⟩)
  go_ret
  exact ⟨rfl, h1, h2⟩

theorem text_short (w : World) (b : Nat) (xs : List UInt8) (bad : Int) (s : ByteArray) (hs : s.size ≤ 65535) (hx : xs.length + s.size + 2 ≤ 140737488355000) (h : PutIs w b xs bad) :
    Calls Tryz.prog 31 #[.pointer (some ⟨b, 0, none⟩), .string s] w fun r w' => r = .returned (.pointer (some ⟨b, 0, none⟩)) ∧ PutIs w' b (stepT s.data.toList xs bad).1 (stepT s.data.toList xs bad).2 ∧ Fr b w w' := by
  have hl : s.data.size = s.size := rfl
  have e1 : stepN 2 (s.size : Int) xs bad = (if bad = 0 then (xs ++ low 2 s.size, 0) else (xs, bad)) := by
    by_cases hbad : bad = 0
    · subst hbad; rw [stepN_fits (by omega) (by omega)]; simp
    · rw [stepN_bad hbad, if_neg hbad]
  have e2 : stepR s.data.toList (stepN 2 (s.size : Int) xs bad).1 (stepN 2 (s.size : Int) xs bad).2 = stepT s.data.toList xs bad := by
    rw [e1]
    by_cases hbad : bad = 0
    · subst hbad; simp [stepR, stepT, hl, hs]
    · simp [stepR, stepT, hbad]
  have e3 : (stepN 2 (s.size : Int) xs bad).1.length ≤ xs.length + 2 := by
    rw [e1]; split <;> simp [low_length]
  have H1 := Lib.hid (putHalf_any w b xs (s.size : Int) bad (by omega) (by omega) h)
  have H2a : (∀ w', PutIs w' b (stepN 2 (s.size : Int) xs bad).1 (stepN 2 (s.size : Int) xs bad).2 → Calls Tryz.prog 89 #[.pointer (some ⟨b, 0, none⟩), .string s] w' fun r w'' => r = .returned (.pointer (some ⟨b, 0, none⟩)) ∧ PutIs w'' b (stepT s.data.toList xs bad).1 (stepT s.data.toList xs bad).2 ∧ Fr b w' w'') :=
    fun w' hp => by rw [← e2]; exact putRaw_any w' b _ _ s (by omega) hp
  have H2 := Lib.hid H2a
  clear e1 e2 e3 hl H2a
  have k1 : decide ((65535 : Int) < (s.size : Int)) = false := by simp; omega
  go_enter Tryz.func31, Tryz.ntmps31
  go_wp2_with (first | (go_at_call 88; refine H1.out.mono ?_; rintro e w1 ⟨rfl, h1, h2⟩) | (go_at_call 89; refine (H2.out _ h1).mono ?_; rintro e w2 ⟨rfl, h3, h4⟩))
  go_ret
  exact ⟨rfl, h3, h2.trans h4⟩

theorem putText_any (w : World) (b : Nat) (xs : List UInt8) (bad : Int) (s : ByteArray) (hx : xs.length + s.size + 2 ≤ 140737488355000) (h : PutIs w b xs bad) :
    Calls Tryz.prog 31 #[.pointer (some ⟨b, 0, none⟩), .string s] w fun r w' => r = .returned (.pointer (some ⟨b, 0, none⟩)) ∧ PutIs w' b (stepT s.data.toList xs bad).1 (stepT s.data.toList xs bad).2 ∧ Fr b w w' := by
  by_cases hs : s.size ≤ 65535
  · exact text_short w b xs bad s hs hx h
  · exact text_long w b xs bad s hs h


end Go.Proofs.YtloajjaaidmaiaaGreat.PP

/-
  Package pack: Put.End.
-/
namespace Go.Proofs.YtloajjaaidmaiaaGreat.PP
open Go Go.RowKit Go.Lib Go.Proofs.YtloajjaaidmaiaaGreat.P0

theorem putEnd_ok (w : World) (b : Nat) (xs : List UInt8) (h : PutIs w b xs 0) :
    Calls Tryz.prog 32 #[.pointer (some ⟨b, 0, none⟩)] w fun r w' => r = .returned (.tuple #[.string ⟨xs.toArray⟩, .int .i64 0]) ∧ w = w' := by
  have c2 := put_bad_cell h
  obtain ⟨v, c0, hr⟩ : ∃ v, w.cell? ⟨b, 0, none⟩ = some v ∧ (convert 62 9 v).run Tryz.prog w = .ok (.string ⟨xs.toArray⟩) w := by
    rcases h with ⟨v, h1, h2⟩ | ⟨h, rfl⟩
    · exact ⟨v, by rw [cell_at h1]; rfl, run_owned_string w h2⟩
    · exact ⟨_, by rw [cell_at h]; rfl, run_owned_string (base := 0) (n := 0) w (World.ownsRow_nil w 0 5 1)⟩
  clear h
  go_enter Tryz.func32, Tryz.ntmps32
  go_wp2
  go_ret2
  exact ⟨rfl, rfl⟩
theorem putEnd_bad (w : World) (b : Nat) (xs : List UInt8) (bad : Int) (hbad : bad ≠ 0) (h : PutIs w b xs bad) :
    Calls Tryz.prog 32 #[.pointer (some ⟨b, 0, none⟩)] w fun r w' => r = .returned (.tuple #[.string ⟨#[]⟩, .int .i64 bad]) ∧ ∃ n, w' = w.drewN n := by
  have c2 := put_bad_cell h
  have k : (bad != 0) = true := by simpa using hbad
  clear h
  go_enter Tryz.func32, Tryz.ntmps32
  go_wp2
  go_quiet (fail)
  go_wp2
  go_ret2
  exact ⟨rfl, _, rfl⟩
theorem putEnd_nil (w : World) :
    Calls Tryz.prog 32 #[.pointer none] w fun r w' => r = .returned (.tuple #[.string ⟨#[]⟩, .int .i64 1]) ∧ w = w' := by
  go_enter Tryz.func32, Tryz.ntmps32
  go_wp2
  go_ret2
  exact ⟨rfl, rfl⟩


end Go.Proofs.YtloajjaaidmaiaaGreat.PP
