/-
  Package pack: Put.Raw.
-/
import Derived.Test.YthihjkdankbnjaaPk0
namespace Go.Proofs.Ythihjkdankbnjaa.PP
open Go Go.RowKit Go.Lib Go.Proofs.Ythihjkdankbnjaa.P0

theorem raw_bad (w : World) (b : Nat) (xs : List UInt8) (bad : Int) (s : ByteArray) (h : PutIs w b xs bad) (hbad : bad ≠ 0) :
    Calls Try.prog 31 #[.pointer (some ⟨b, 0, none⟩), .string s] w fun r w' => r = .returned (.pointer (some ⟨b, 0, none⟩)) ∧ w = w' := by
  go_enter Try.func31, Try.ntmps31
  go_wp2_with (go_at_call 39; refine (ready_bad _ b xs bad h hbad).mono ?_; rintro e w' ⟨rfl, rfl⟩)
  go_ret
  exact ⟨rfl, rfl⟩
theorem raw_nil (w : World) (s : ByteArray) :
    Calls Try.prog 31 #[.pointer none, .string s] w fun r w' => r = .returned (.pointer none) ∧ w = w' := by
  go_enter Try.func31, Try.ntmps31
  go_wp2_with (go_at_call 39; refine (ready_nil _).mono ?_; rintro e w' ⟨rfl, rfl⟩)
  go_ret
  exact ⟨rfl, rfl⟩
theorem raw_ok (w : World) (b : Nat) (xs : List UInt8) (s : ByteArray) (hx : xs.length + s.size ≤ 140737488355000) (h : PutIs w b xs 0) :
    Calls Try.prog 31 #[.pointer (some ⟨b, 0, none⟩), .string s] w fun r w' => r = .returned (.pointer (some ⟨b, 0, none⟩)) ∧ PutOwn w' b (xs ++ s.data.toList) 0 ∧ Fr b w w' := by
  obtain ⟨i0, hi, hz0, hz1, hz2⟩ := info_parts infoByte
  go_enter Try.func31, Try.ntmps31
  go_wp2_with (first | (go_at_call 39; refine (ready_ok _ b xs h).mono ?_; rintro e w1 ⟨rfl, ho, hb⟩; have hlt := ho.lt; obtain ⟨v, h1, h2⟩ := ho; have c0 : w1.cell? ⟨b, 0, none⟩ = some v := (by rw [cell_at h1]; rfl); have H1 := Lib.hid h1; clear h1) | (at_builtin; go_must (refine wpList_append_own_string _ rfl (.tmp 11) (.tmp 12) 41 9 rfl (b + 1) 5 i0 Try.underlying41 Try.underlying9 hi hz0 hz1 hz2 _ _ _ rfl h2 s rfl ?c1 ?c2 ?c3 ?_)))
  case c1 => unfold maxLen; omega
  case c2 => omega
  case c3 => omega
  intro v' w2 hown' hgrow _
  obtain ⟨sa, sn, sc, rfl⟩ := owns_shape hown'
  have hblk := put_block H1.out h2 (by omega) hgrow
  have hb2 : Fr b w w2 := hb.grown hlt h2 (by omega) hgrow
  have hys : w2.ownsRow (b + 1) 5 1 (.slice sa sn sc) (xs ++ s.data.toList).length (cells (xs ++ s.data.toList)) := by
    rw [cells_append, List.length_append]; exact hown'
  have hst := put_stored hblk hys
  have c0' : w2.cell? ⟨b, 0, none⟩ = some v := by rw [cell_at hblk]; rfl
  have f0' : w2.frozen? ⟨b, 0, none⟩ = false := free_at hblk 0
  have hb3 : Fr b w (w2.setCell ⟨b, 0, none⟩ (.slice sa sn sc)) := hb2.setCell _ _
  clear hblk hb2 hys hown' hgrow c0 h2
  go_wp2
  go_ret
  exact ⟨rfl, hst, hb3⟩

theorem putRaw_any (w : World) (b : Nat) (xs : List UInt8) (bad : Int) (s : ByteArray) (hx : xs.length + s.size ≤ 140737488355000) (h : PutIs w b xs bad) :
    Calls Try.prog 31 #[.pointer (some ⟨b, 0, none⟩), .string s] w fun r w' => r = .returned (.pointer (some ⟨b, 0, none⟩)) ∧ PutIs w' b (stepR s.data.toList xs bad).1 (stepR s.data.toList xs bad).2 ∧ Fr b w w' := by
  by_cases hbad : bad = 0
  · subst hbad
    exact (raw_ok w b xs s hx h).mono fun _ _ ⟨a, c, d⟩ => ⟨a, .inl (by simpa [stepR] using c), d⟩
  · exact (raw_bad w b xs bad s h hbad).mono fun _ _ ⟨a, c⟩ => ⟨a, by simp only [stepR, if_neg hbad]; exact c ▸ h, c ▸ Fr.refl _ _⟩


end Go.Proofs.Ythihjkdankbnjaa.PP
