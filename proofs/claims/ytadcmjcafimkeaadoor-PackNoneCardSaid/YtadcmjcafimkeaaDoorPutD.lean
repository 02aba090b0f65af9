/-
  Package pack's Put, by contracts: Raw, Text, Len.
-/
import Derived.Test.YtadcmjcafimkeaaDoorPutC
import Derived.Lib.BufferRead
namespace Go.Proofs.YtadcmjcafimkeaaDoor.P1
open Go Go.RowKit Go.Lib

def stepR (ys : List UInt8) (xs : List UInt8) (bad : Int) : List UInt8 × Int := if bad = 0 then (xs ++ ys, 0) else (xs, bad)
def stepT (ys : List UInt8) (xs : List UInt8) (bad : Int) : List UInt8 × Int :=
  if bad = 0 then (if ys.length ≤ 65535 then (xs ++ (low 2 ys.length ++ ys), 0) else (xs, 2)) else (xs, bad)

theorem raw_bad (w : World) (b : Nat) (xs : List UInt8) (bad : Int) (s : ByteArray) (h : PutIs w b xs bad) (hbad : bad ≠ 0) :
    Calls Tryd.prog 20 #[.pointer (some ⟨b, 0, none⟩), .string s] w fun r w' => r = .returned (.pointer (some ⟨b, 0, none⟩)) ∧ w = w' := by
  go_enter Tryd.func20, Tryd.ntmps20
  go_wp2_with (go_at_call 45; refine (ready_bad _ b xs bad h hbad).mono ?_; rintro e w' ⟨rfl, rfl⟩)
  go_ret
  exact ⟨rfl, rfl⟩
theorem raw_nil (w : World) (s : ByteArray) :
    Calls Tryd.prog 20 #[.pointer none, .string s] w fun r w' => r = .returned (.pointer none) ∧ w = w' := by
  go_enter Tryd.func20, Tryd.ntmps20
  go_wp2_with (go_at_call 45; refine (ready_nil _).mono ?_; rintro e w' ⟨rfl, rfl⟩)
  go_ret
  exact ⟨rfl, rfl⟩
theorem raw_ok (w : World) (b : Nat) (xs : List UInt8) (s : ByteArray) (hx : xs.length + s.size ≤ 140737488355000) (h : PutIs w b xs 0) :
    Calls Tryd.prog 20 #[.pointer (some ⟨b, 0, none⟩), .string s] w fun r w' => r = .returned (.pointer (some ⟨b, 0, none⟩)) ∧ PutOwn w' b (xs ++ s.data.toList) 0 ∧ Fr b w w' := by
  obtain ⟨i0, hi, hz0, hz1, hz2⟩ := info_parts infoByte
  go_enter Tryd.func20, Tryd.ntmps20
  go_wp2_with (first | (go_at_call 45; refine (ready_ok _ b xs h).mono ?_; rintro e w1 ⟨rfl, ho, hb⟩; have hlt := ho.lt; obtain ⟨v, h1, h2⟩ := ho; have c0 : w1.cell? ⟨b, 0, none⟩ = some v := (by rw [cell_at h1]; rfl); have H1 := Lib.hid h1; clear h1) | (at_builtin; go_must (refine wpList_append_own_string _ rfl (.tmp 11) (.tmp 12) 26 9 rfl (b + 1) 5 i0 Tryd.underlying26 Tryd.underlying9 hi hz0 hz1 hz2 _ _ _ rfl h2 s rfl ?c1 ?c2 ?c3 ?_)))
  case c1 => unfold maxLen; omega
  case c2 => omega
  case c3 => omega
  intro v' w2 hown' hgrow _
  obtain ⟨sa, sn, sc, rfl⟩ := owns_shape hown'
  have hblk := put_block H1.out h2 (by omega) hgrow
  have hb2 : Fr b w w2 := hb.grown hlt h2 (by omega) hgrow
  have hys : w2.ownsRow (b + 1) 5 1 (.slice sa sn sc) (xs ++ s.data.toList).length (cells (xs ++ s.data.toList)) := by
    rw [cells_append, List.length_append]; exact hown'
  have hst := put_stored hblk hys
  have c0' : w2.cell? ⟨b, 0, none⟩ = some v := by rw [cell_at hblk]; rfl
  have f0' : w2.frozen? ⟨b, 0, none⟩ = false := free_at hblk 0
  have hb3 : Fr b w (w2.setCell ⟨b, 0, none⟩ (.slice sa sn sc)) := hb2.setCell _ _
  clear hblk hb2 hys hown' hgrow c0 h2
  go_wp2
  go_ret
  exact ⟨rfl, hst, hb3⟩

theorem putRaw_any (w : World) (b : Nat) (xs : List UInt8) (bad : Int) (s : ByteArray) (hx : xs.length + s.size ≤ 140737488355000) (h : PutIs w b xs bad) :
    Calls Tryd.prog 20 #[.pointer (some ⟨b, 0, none⟩), .string s] w fun r w' => r = .returned (.pointer (some ⟨b, 0, none⟩)) ∧ PutIs w' b (stepR s.data.toList xs bad).1 (stepR s.data.toList xs bad).2 ∧ Fr b w w' := by
  by_cases hbad : bad = 0
  · subst hbad
    exact (raw_ok w b xs s hx h).mono fun _ _ ⟨a, c, d⟩ => ⟨a, .inl (by simpa [stepR] using c), d⟩
  · exact (raw_bad w b xs bad s h hbad).mono fun _ _ ⟨a, c⟩ => ⟨a, by simp only [stepR, if_neg hbad]; exact c ▸ h, c ▸ Fr.refl _ _⟩

theorem text_long (w : World) (b : Nat) (xs : List UInt8) (bad : Int) (s : ByteArray) (hs : ¬ s.size ≤ 65535) (h : PutIs w b xs bad) :
    Calls Tryd.prog 18 #[.pointer (some ⟨b, 0, none⟩), .string s] w fun r w' => r = .returned (.pointer (some ⟨b, 0, none⟩)) ∧ PutIs w' b (stepT s.data.toList xs bad).1 (stepT s.data.toList xs bad).2 ∧ Fr b w w' := by
  have H : Calls Tryd.prog 44 #[.pointer (some ⟨b, 0, none⟩), .int .i64 2] w fun r w' => r = .returned (.pointer (some ⟨b, 0, none⟩)) ∧ PutIs w' b (stepT s.data.toList xs bad).1 (stepT s.data.toList xs bad).2 ∧ Fr b w w' := by
    by_cases hbad : bad = 0
    · subst hbad
      refine (fail_first w b xs 2 h).mono fun _ _ ⟨a, c, d⟩ => ⟨a, ?_, d⟩
      simp only [stepT, if_true, Array.length_toList]
      rw [if_neg (show ¬ s.data.size ≤ 65535 from hs)]; exact c
    · exact (fail_later w b xs 2 bad h hbad).mono fun _ _ ⟨a, c⟩ => ⟨a, by simp only [stepT, if_neg hbad]; exact c ▸ h, c ▸ Fr.refl _ _⟩
  have k1 : decide ((65535 : Int) < (s.size : Int)) = true := by simp; omega
  go_enter Tryd.func18, Tryd.ntmps18
  go_wp2_with (go_at_call 44; refine H.mono ?_; rintro e w' ⟨rfl, h1, h2⟩)
  go_ret
  exact ⟨rfl, h1, h2⟩

theorem text_short (w : World) (b : Nat) (xs : List UInt8) (bad : Int) (s : ByteArray) (hs : s.size ≤ 65535) (hx : xs.length + s.size + 2 ≤ 140737488355000) (h : PutIs w b xs bad) :
    Calls Tryd.prog 18 #[.pointer (some ⟨b, 0, none⟩), .string s] w fun r w' => r = .returned (.pointer (some ⟨b, 0, none⟩)) ∧ PutIs w' b (stepT s.data.toList xs bad).1 (stepT s.data.toList xs bad).2 ∧ Fr b w w' := by
  have hl : s.data.size = s.size := rfl
  have e1 : stepN 2 (s.size : Int) xs bad = (if bad = 0 then (xs ++ low 2 s.size, 0) else (xs, bad)) := by
    by_cases hbad : bad = 0
    · subst hbad; rw [stepN_fits (by omega) (by omega)]; simp
    · rw [stepN_bad hbad, if_neg hbad]
  have e2 : stepR s.data.toList (stepN 2 (s.size : Int) xs bad).1 (stepN 2 (s.size : Int) xs bad).2 = stepT s.data.toList xs bad := by
    rw [e1]
    by_cases hbad : bad = 0
    · subst hbad; simp [stepR, stepT, hl, hs]
    · simp [stepR, stepT, hbad]
  have e3 : (stepN 2 (s.size : Int) xs bad).1.length ≤ xs.length + 2 := by
    rw [e1]; split <;> simp [low_length]
  have H1 := Lib.hid (putHalf_any w b xs (s.size : Int) bad (by omega) (by omega) h)
  have H2a : (∀ w', PutIs w' b (stepN 2 (s.size : Int) xs bad).1 (stepN 2 (s.size : Int) xs bad).2 → Calls Tryd.prog 20 #[.pointer (some ⟨b, 0, none⟩), .string s] w' fun r w'' => r = .returned (.pointer (some ⟨b, 0, none⟩)) ∧ PutIs w'' b (stepT s.data.toList xs bad).1 (stepT s.data.toList xs bad).2 ∧ Fr b w' w'') :=
    fun w' hp => by rw [← e2]; exact putRaw_any w' b _ _ s (by omega) hp
  have H2 := Lib.hid H2a
  clear e1 e2 e3 hl H2a
  have k1 : decide ((65535 : Int) < (s.size : Int)) = false := by simp; omega
  go_enter Tryd.func18, Tryd.ntmps18
  go_wp2_with (first | (go_at_call 14; refine H1.out.mono ?_; rintro e w1 ⟨rfl, h1, h2⟩) | (go_at_call 20; refine (H2.out _ h1).mono ?_; rintro e w2 ⟨rfl, h3, h4⟩))
  go_ret
  exact ⟨rfl, h3, h2.trans h4⟩

theorem putText_any (w : World) (b : Nat) (xs : List UInt8) (bad : Int) (s : ByteArray) (hx : xs.length + s.size + 2 ≤ 140737488355000) (h : PutIs w b xs bad) :
    Calls Tryd.prog 18 #[.pointer (some ⟨b, 0, none⟩), .string s] w fun r w' => r = .returned (.pointer (some ⟨b, 0, none⟩)) ∧ PutIs w' b (stepT s.data.toList xs bad).1 (stepT s.data.toList xs bad).2 ∧ Fr b w w' := by
  by_cases hs : s.size ≤ 65535
  · exact text_short w b xs bad s hs hx h
  · exact text_long w b xs bad s hs h

theorem len_owned {w : World} {base e : Nat} {v : Value} {n : Nat} {xs : List Value} (h : w.ownsRow base e 1 v n xs) : ∃ a c, v = .slice a n c := by
  rcases h.2 with ⟨rfl, rfl⟩ | ⟨g, cap, cur, rfl, _⟩
  · exact ⟨_, _, rfl⟩
  · exact ⟨_, _, rfl⟩
theorem put_len_cell {w : World} {b : Nat} {xs : List UInt8} {bad : Int} (h : PutIs w b xs bad) : ∃ a c, w.cell? ⟨b, 0, none⟩ = some (.slice a xs.length c) := by
  rcases h with ⟨v, h1, h2⟩ | ⟨h, rfl⟩
  · obtain ⟨a, c, rfl⟩ := len_owned h2
    exact ⟨a, c, by rw [cell_at h1]; rfl⟩
  · exact ⟨none, 0, by rw [cell_at h]; rfl⟩
theorem put_bad_cell {w : World} {b : Nat} {xs : List UInt8} {bad : Int} (h : PutIs w b xs bad) : w.cell? ⟨b, 2, none⟩ = some (.int .i64 bad) := by
  rcases h with ⟨v, h1, h2⟩ | ⟨h, rfl⟩
  · rw [cell_at h1]; rfl
  · rw [cell_at h]; rfl

theorem putLen_any (w : World) (b : Nat) (xs : List UInt8) (bad : Int) (h : PutIs w b xs bad) :
    Calls Tryd.prog 22 #[.pointer (some ⟨b, 0, none⟩)] w fun r w' => r = .returned (.int .i64 xs.length) ∧ w = w' := by
  obtain ⟨a, c, hc⟩ := put_len_cell h
  clear h
  go_enter Tryd.func22, Tryd.ntmps22
  go_wp2
  go_ret
  exact ⟨rfl, rfl⟩
theorem putLen_nil (w : World) :
    Calls Tryd.prog 22 #[.pointer none] w fun r w' => r = .returned (.int .i64 0) ∧ w = w' := by
  go_enter Tryd.func22, Tryd.ntmps22
  go_wp2
  go_ret
  exact ⟨rfl, rfl⟩

theorem run_owned_string (w : World) {base n : Nat} {v : Value} {xs : List UInt8} (h : w.ownsRow base 5 1 v n (cells xs)) :
    (convert 26 9 v).run Tryd.prog w = .ok (.string ⟨xs.toArray⟩) w := by
  have hn : n = xs.length := by have := h.1; simp [cells_length] at this; omega
  subst hn
  rcases h.2 with ⟨rfl, e⟩ | ⟨g, cap, cur, rfl, _, hg, _, _, _, ht⟩
  · obtain rfl : xs = [] := List.eq_nil_of_length_eq_zero e
    exact run_convert_nil_bytes w 26 9 5 0 Tryd.underlying26 Tryd.underlying5 Tryd.underlying9
  · rw [Nat.mul_one] at ht
    exact run_convert_bytes_back w 26 9 5 ⟨g, 0, none⟩ cap xs Tryd.underlying26 Tryd.underlying5 Tryd.underlying9 (bytes_of_row hg ht)

theorem putEnd_ok (w : World) (b : Nat) (xs : List UInt8) (h : PutIs w b xs 0) :
    Calls Tryd.prog 21 #[.pointer (some ⟨b, 0, none⟩)] w fun r w' => r = .returned (.tuple #[.string ⟨xs.toArray⟩, .int .i64 0]) ∧ w = w' := by
  have c2 := put_bad_cell h
  obtain ⟨v, c0, hr⟩ : ∃ v, w.cell? ⟨b, 0, none⟩ = some v ∧ (convert 26 9 v).run Tryd.prog w = .ok (.string ⟨xs.toArray⟩) w := by
    rcases h with ⟨v, h1, h2⟩ | ⟨h, rfl⟩
    · exact ⟨v, by rw [cell_at h1]; rfl, run_owned_string w h2⟩
    · exact ⟨_, by rw [cell_at h]; rfl, run_owned_string (base := 0) (n := 0) w (World.ownsRow_nil w 0 5 1)⟩
  clear h
  go_enter Tryd.func21, Tryd.ntmps21
  go_wp2
  go_ret2
  exact ⟨rfl, rfl⟩
theorem putEnd_bad (w : World) (b : Nat) (xs : List UInt8) (bad : Int) (hbad : bad ≠ 0) (h : PutIs w b xs bad) :
    Calls Tryd.prog 21 #[.pointer (some ⟨b, 0, none⟩)] w fun r w' => r = .returned (.tuple #[.string ⟨#[]⟩, .int .i64 bad]) ∧ ∃ n, w' = w.drewN n := by
  have c2 := put_bad_cell h
  have k : (bad != 0) = true := by simpa using hbad
  clear h
  go_enter Tryd.func21, Tryd.ntmps21
  go_wp2
  go_quiet (fail)
  go_wp2
  go_ret2
  exact ⟨rfl, _, rfl⟩
theorem putEnd_nil (w : World) :
    Calls Tryd.prog 21 #[.pointer none] w fun r w' => r = .returned (.tuple #[.string ⟨#[]⟩, .int .i64 1]) ∧ w = w' := by
  go_enter Tryd.func21, Tryd.ntmps21
  go_wp2
  go_ret2
  exact ⟨rfl, rfl⟩

end Go.Proofs.YtadcmjcafimkeaaDoor.P1
