/-
  Package pack's Put, by contracts: narrow, Byte, Half, Word, Int, whatever the Put holds.
-/
import Derived.Test.YtadcmjcafimkeaaDoorPutB
namespace Go.Proofs.YtadcmjcafimkeaaDoor.P1
open Go Go.RowKit Go.Lib

/-- what becomes of a Put to which a number is put that must fit into n bytes -/
def stepN (n : Nat) (v : Int) (xs : List UInt8) (bad : Int) : List UInt8 × Int :=
  if bad = 0 then (if 0 ≤ v ∧ v < 256 ^ n then (xs ++ low n v.toNat, 0) else (xs, 1)) else (xs, bad)
theorem stepN_bad {n : Nat} {v : Int} {xs : List UInt8} {bad : Int} (h : bad ≠ 0) : stepN n v xs bad = (xs, bad) := by simp [stepN, h]
theorem stepN_fits {n : Nat} {v : Int} {xs : List UInt8} (h0 : 0 ≤ v) (h1 : v < 256 ^ n) : stepN n v xs 0 = (xs ++ low n v.toNat, 0) := by simp [stepN, h0, h1]
theorem stepN_not {n : Nat} {v : Int} {xs : List UInt8} (h : ¬ (0 ≤ v ∧ v < 256 ^ n)) : stepN n v xs 0 = (xs, 1) := by simp only [stepN, if_neg h, if_true]

theorem narrow_neg (w : World) (b : Nat) (xs : List UInt8) (v s : Int) (hv : v < 0) (h : PutIs w b xs 0) :
    Calls Tryd.prog 42 #[.pointer (some ⟨b, 0, none⟩), .int .i64 v, .int .i64 s] w fun r w' => r = .returned (.pointer (some ⟨b, 0, none⟩)) ∧ PutIs w' b xs 1 ∧ Fr b w w' := by
  go_enter Tryd.func42, Tryd.ntmps42
  go_wp2_with (go_at_call 44; refine (fail_first _ b xs 1 h).mono ?_; rintro e w' ⟨rfl, h1, h2⟩)
  go_ret
  exact ⟨rfl, h1, h2⟩
theorem narrow_neg_bad (w : World) (b : Nat) (xs : List UInt8) (bad v s : Int) (hv : v < 0) (hbad : bad ≠ 0) (h : PutIs w b xs bad) :
    Calls Tryd.prog 42 #[.pointer (some ⟨b, 0, none⟩), .int .i64 v, .int .i64 s] w fun r w' => r = .returned (.pointer (some ⟨b, 0, none⟩)) ∧ w = w' := by
  go_enter Tryd.func42, Tryd.ntmps42
  go_wp2_with (go_at_call 44; refine (fail_later _ b xs 1 bad h hbad).mono ?_; rintro e w' ⟨rfl, rfl⟩)
  go_ret
  exact ⟨rfl, rfl⟩

theorem narrow_fits_1 (w : World) (b : Nat) (xs : List UInt8) (v : Nat) (hv : v < 256) (hx : xs.length ≤ 140737488355000) (h : PutIs w b xs 0) :
    Calls Tryd.prog 42 #[.pointer (some ⟨b, 0, none⟩), .int .i64 v, .int .i64 1] w fun r w' => r = .returned (.pointer (some ⟨b, 0, none⟩)) ∧ PutOwn w' b (xs ++ low 1 v) 0 ∧ Fr b w w' := by
  have k1 : (((v : Int) / 256) != 0) = false := by simp; omega
  have k2 : decide ((v : Int) < 0) = false := by simp
  go_enter Tryd.func42, Tryd.ntmps42
  go_wp2_with (go_at_call 43; refine (number_ok _ b xs v 1 (by omega) (by omega) hx h).mono ?_; rintro e w' ⟨rfl, h1, h2⟩)
  go_ret
  exact ⟨rfl, h1, h2⟩
theorem narrow_over_1 (w : World) (b : Nat) (xs : List UInt8) (v : Nat) (hv : ¬ v < 256) (hv2 : v < 9223372036854775808) (h : PutIs w b xs 0) :
    Calls Tryd.prog 42 #[.pointer (some ⟨b, 0, none⟩), .int .i64 v, .int .i64 1] w fun r w' => r = .returned (.pointer (some ⟨b, 0, none⟩)) ∧ PutIs w' b xs 1 ∧ Fr b w w' := by
  have k1 : (((v : Int) / 256) != 0) = true := by simp; omega
  have k2 : decide ((v : Int) < 0) = false := by simp
  clear hv2
  go_enter Tryd.func42, Tryd.ntmps42
  go_wp2_with (go_at_call 44; refine (fail_first _ b xs 1 h).mono ?_; rintro e w' ⟨rfl, h1, h2⟩)
  go_ret
  exact ⟨rfl, h1, h2⟩
theorem narrow_bad_1 (w : World) (b : Nat) (xs : List UInt8) (v : Nat) (bad : Int) (hbad : bad ≠ 0) (h : PutIs w b xs bad) :
    Calls Tryd.prog 42 #[.pointer (some ⟨b, 0, none⟩), .int .i64 v, .int .i64 1] w fun r w' => r = .returned (.pointer (some ⟨b, 0, none⟩)) ∧ w = w' := by
  have k2 : decide ((v : Int) < 0) = false := by simp
  by_cases hv : v < 256
  · have k1 : (((v : Int) / 256) != 0) = false := by simp; omega
    go_enter Tryd.func42, Tryd.ntmps42
    go_wp2_with (go_at_call 43; refine (number_bad _ b xs bad _ _ h hbad).mono ?_; rintro e w' ⟨rfl, rfl⟩)
    go_ret
    exact ⟨rfl, rfl⟩
  · have k1 : (((v : Int) / 256) != 0) = true := by simp; omega
    go_enter Tryd.func42, Tryd.ntmps42
    go_wp2_with (go_at_call 44; refine (fail_later _ b xs 1 bad h hbad).mono ?_; rintro e w' ⟨rfl, rfl⟩)
    go_ret
    exact ⟨rfl, rfl⟩
theorem narrow_1 (w : World) (b : Nat) (xs : List UInt8) (v bad : Int) (hv : v < 9223372036854775808) (hx : xs.length ≤ 140737488355000) (h : PutIs w b xs bad) :
    Calls Tryd.prog 42 #[.pointer (some ⟨b, 0, none⟩), .int .i64 v, .int .i64 1] w fun r w' => r = .returned (.pointer (some ⟨b, 0, none⟩)) ∧ PutIs w' b (stepN 1 v xs bad).1 (stepN 1 v xs bad).2 ∧ Fr b w w' := by
  by_cases hbad : bad = 0
  · subst hbad
    by_cases h0 : 0 ≤ v
    · obtain ⟨n, rfl⟩ := Int.eq_ofNat_of_zero_le h0
      by_cases hn : n < 256
      · rw [stepN_fits h0 (by omega)]
        exact (narrow_fits_1 w b xs n hn hx h).mono fun _ _ ⟨a, c, d⟩ => ⟨a, .inl c, d⟩
      · rw [stepN_not (by omega)]
        exact narrow_over_1 w b xs n hn (by omega) h
    · rw [stepN_not (by omega)]
      exact narrow_neg w b xs v 1 (by omega) h
  · rw [stepN_bad hbad]
    by_cases h0 : 0 ≤ v
    · obtain ⟨n, rfl⟩ := Int.eq_ofNat_of_zero_le h0
      exact (narrow_bad_1 w b xs n bad hbad h).mono fun _ _ ⟨a, c⟩ => ⟨a, c ▸ h, c ▸ Fr.refl _ _⟩
    · exact (narrow_neg_bad w b xs bad v 1 (by omega) hbad h).mono fun _ _ ⟨a, c⟩ => ⟨a, c ▸ h, c ▸ Fr.refl _ _⟩
theorem putByte_any (w : World) (b : Nat) (xs : List UInt8) (v bad : Int) (hv : v < 9223372036854775808) (hx : xs.length ≤ 140737488355000) (h : PutIs w b xs bad) :
    Calls Tryd.prog 12 #[.pointer (some ⟨b, 0, none⟩), .int .i64 v] w fun r w' => r = .returned (.pointer (some ⟨b, 0, none⟩)) ∧ PutIs w' b (stepN 1 v xs bad).1 (stepN 1 v xs bad).2 ∧ Fr b w w' := by
  have H := narrow_1 w b xs v bad hv hx h
  clear hv
  go_enter Tryd.func12, Tryd.ntmps12
  go_wp2_with (go_at_call 42; refine H.mono ?_; rintro e w' ⟨rfl, h1, h2⟩)
  go_ret
  exact ⟨rfl, h1, h2⟩

theorem narrow_fits_2 (w : World) (b : Nat) (xs : List UInt8) (v : Nat) (hv : v < 65536) (hx : xs.length ≤ 140737488355000) (h : PutIs w b xs 0) :
    Calls Tryd.prog 42 #[.pointer (some ⟨b, 0, none⟩), .int .i64 v, .int .i64 2] w fun r w' => r = .returned (.pointer (some ⟨b, 0, none⟩)) ∧ PutOwn w' b (xs ++ low 2 v) 0 ∧ Fr b w w' := by
  have k1 : (((v : Int) / 65536) != 0) = false := by simp; omega
  have k2 : decide ((v : Int) < 0) = false := by simp
  go_enter Tryd.func42, Tryd.ntmps42
  go_wp2_with (go_at_call 43; refine (number_ok _ b xs v 2 (by omega) (by omega) hx h).mono ?_; rintro e w' ⟨rfl, h1, h2⟩)
  go_ret
  exact ⟨rfl, h1, h2⟩
theorem narrow_over_2 (w : World) (b : Nat) (xs : List UInt8) (v : Nat) (hv : ¬ v < 65536) (hv2 : v < 9223372036854775808) (h : PutIs w b xs 0) :
    Calls Tryd.prog 42 #[.pointer (some ⟨b, 0, none⟩), .int .i64 v, .int .i64 2] w fun r w' => r = .returned (.pointer (some ⟨b, 0, none⟩)) ∧ PutIs w' b xs 1 ∧ Fr b w w' := by
  have k1 : (((v : Int) / 65536) != 0) = true := by simp; omega
  have k2 : decide ((v : Int) < 0) = false := by simp
  clear hv2
  go_enter Tryd.func42, Tryd.ntmps42
  go_wp2_with (go_at_call 44; refine (fail_first _ b xs 1 h).mono ?_; rintro e w' ⟨rfl, h1, h2⟩)
  go_ret
  exact ⟨rfl, h1, h2⟩
theorem narrow_bad_2 (w : World) (b : Nat) (xs : List UInt8) (v : Nat) (bad : Int) (hbad : bad ≠ 0) (h : PutIs w b xs bad) :
    Calls Tryd.prog 42 #[.pointer (some ⟨b, 0, none⟩), .int .i64 v, .int .i64 2] w fun r w' => r = .returned (.pointer (some ⟨b, 0, none⟩)) ∧ w = w' := by
  have k2 : decide ((v : Int) < 0) = false := by simp
  by_cases hv : v < 65536
  · have k1 : (((v : Int) / 65536) != 0) = false := by simp; omega
    go_enter Tryd.func42, Tryd.ntmps42
    go_wp2_with (go_at_call 43; refine (number_bad _ b xs bad _ _ h hbad).mono ?_; rintro e w' ⟨rfl, rfl⟩)
    go_ret
    exact ⟨rfl, rfl⟩
  · have k1 : (((v : Int) / 65536) != 0) = true := by simp; omega
    go_enter Tryd.func42, Tryd.ntmps42
    go_wp2_with (go_at_call 44; refine (fail_later _ b xs 1 bad h hbad).mono ?_; rintro e w' ⟨rfl, rfl⟩)
    go_ret
    exact ⟨rfl, rfl⟩
theorem narrow_2 (w : World) (b : Nat) (xs : List UInt8) (v bad : Int) (hv : v < 9223372036854775808) (hx : xs.length ≤ 140737488355000) (h : PutIs w b xs bad) :
    Calls Tryd.prog 42 #[.pointer (some ⟨b, 0, none⟩), .int .i64 v, .int .i64 2] w fun r w' => r = .returned (.pointer (some ⟨b, 0, none⟩)) ∧ PutIs w' b (stepN 2 v xs bad).1 (stepN 2 v xs bad).2 ∧ Fr b w w' := by
  by_cases hbad : bad = 0
  · subst hbad
    by_cases h0 : 0 ≤ v
    · obtain ⟨n, rfl⟩ := Int.eq_ofNat_of_zero_le h0
      by_cases hn : n < 65536
      · rw [stepN_fits h0 (by omega)]
        exact (narrow_fits_2 w b xs n hn hx h).mono fun _ _ ⟨a, c, d⟩ => ⟨a, .inl c, d⟩
      · rw [stepN_not (by omega)]
        exact narrow_over_2 w b xs n hn (by omega) h
    · rw [stepN_not (by omega)]
      exact narrow_neg w b xs v 2 (by omega) h
  · rw [stepN_bad hbad]
    by_cases h0 : 0 ≤ v
    · obtain ⟨n, rfl⟩ := Int.eq_ofNat_of_zero_le h0
      exact (narrow_bad_2 w b xs n bad hbad h).mono fun _ _ ⟨a, c⟩ => ⟨a, c ▸ h, c ▸ Fr.refl _ _⟩
    · exact (narrow_neg_bad w b xs bad v 2 (by omega) hbad h).mono fun _ _ ⟨a, c⟩ => ⟨a, c ▸ h, c ▸ Fr.refl _ _⟩
theorem putHalf_any (w : World) (b : Nat) (xs : List UInt8) (v bad : Int) (hv : v < 9223372036854775808) (hx : xs.length ≤ 140737488355000) (h : PutIs w b xs bad) :
    Calls Tryd.prog 14 #[.pointer (some ⟨b, 0, none⟩), .int .i64 v] w fun r w' => r = .returned (.pointer (some ⟨b, 0, none⟩)) ∧ PutIs w' b (stepN 2 v xs bad).1 (stepN 2 v xs bad).2 ∧ Fr b w w' := by
  have H := narrow_2 w b xs v bad hv hx h
  clear hv
  go_enter Tryd.func14, Tryd.ntmps14
  go_wp2_with (go_at_call 42; refine H.mono ?_; rintro e w' ⟨rfl, h1, h2⟩)
  go_ret
  exact ⟨rfl, h1, h2⟩

theorem narrow_fits_4 (w : World) (b : Nat) (xs : List UInt8) (v : Nat) (hv : v < 4294967296) (hx : xs.length ≤ 140737488355000) (h : PutIs w b xs 0) :
    Calls Tryd.prog 42 #[.pointer (some ⟨b, 0, none⟩), .int .i64 v, .int .i64 4] w fun r w' => r = .returned (.pointer (some ⟨b, 0, none⟩)) ∧ PutOwn w' b (xs ++ low 4 v) 0 ∧ Fr b w w' := by
  have k1 : (((v : Int) / 4294967296) != 0) = false := by simp; omega
  have k2 : decide ((v : Int) < 0) = false := by simp
  go_enter Tryd.func42, Tryd.ntmps42
  go_wp2_with (go_at_call 43; refine (number_ok _ b xs v 4 (by omega) (by omega) hx h).mono ?_; rintro e w' ⟨rfl, h1, h2⟩)
  go_ret
  exact ⟨rfl, h1, h2⟩
theorem narrow_over_4 (w : World) (b : Nat) (xs : List UInt8) (v : Nat) (hv : ¬ v < 4294967296) (hv2 : v < 9223372036854775808) (h : PutIs w b xs 0) :
    Calls Tryd.prog 42 #[.pointer (some ⟨b, 0, none⟩), .int .i64 v, .int .i64 4] w fun r w' => r = .returned (.pointer (some ⟨b, 0, none⟩)) ∧ PutIs w' b xs 1 ∧ Fr b w w' := by
  have k1 : (((v : Int) / 4294967296) != 0) = true := by simp; omega
  have k2 : decide ((v : Int) < 0) = false := by simp
  clear hv2
  go_enter Tryd.func42, Tryd.ntmps42
  go_wp2_with (go_at_call 44; refine (fail_first _ b xs 1 h).mono ?_; rintro e w' ⟨rfl, h1, h2⟩)
  go_ret
  exact ⟨rfl, h1, h2⟩
theorem narrow_bad_4 (w : World) (b : Nat) (xs : List UInt8) (v : Nat) (bad : Int) (hbad : bad ≠ 0) (h : PutIs w b xs bad) :
    Calls Tryd.prog 42 #[.pointer (some ⟨b, 0, none⟩), .int .i64 v, .int .i64 4] w fun r w' => r = .returned (.pointer (some ⟨b, 0, none⟩)) ∧ w = w' := by
  have k2 : decide ((v : Int) < 0) = false := by simp
  by_cases hv : v < 4294967296
  · have k1 : (((v : Int) / 4294967296) != 0) = false := by simp; omega
    go_enter Tryd.func42, Tryd.ntmps42
    go_wp2_with (go_at_call 43; refine (number_bad _ b xs bad _ _ h hbad).mono ?_; rintro e w' ⟨rfl, rfl⟩)
    go_ret
    exact ⟨rfl, rfl⟩
  · have k1 : (((v : Int) / 4294967296) != 0) = true := by simp; omega
    go_enter Tryd.func42, Tryd.ntmps42
    go_wp2_with (go_at_call 44; refine (fail_later _ b xs 1 bad h hbad).mono ?_; rintro e w' ⟨rfl, rfl⟩)
    go_ret
    exact ⟨rfl, rfl⟩
theorem narrow_4 (w : World) (b : Nat) (xs : List UInt8) (v bad : Int) (hv : v < 9223372036854775808) (hx : xs.length ≤ 140737488355000) (h : PutIs w b xs bad) :
    Calls Tryd.prog 42 #[.pointer (some ⟨b, 0, none⟩), .int .i64 v, .int .i64 4] w fun r w' => r = .returned (.pointer (some ⟨b, 0, none⟩)) ∧ PutIs w' b (stepN 4 v xs bad).1 (stepN 4 v xs bad).2 ∧ Fr b w w' := by
  by_cases hbad : bad = 0
  · subst hbad
    by_cases h0 : 0 ≤ v
    · obtain ⟨n, rfl⟩ := Int.eq_ofNat_of_zero_le h0
      by_cases hn : n < 4294967296
      · rw [stepN_fits h0 (by omega)]
        exact (narrow_fits_4 w b xs n hn hx h).mono fun _ _ ⟨a, c, d⟩ => ⟨a, .inl c, d⟩
      · rw [stepN_not (by omega)]
        exact narrow_over_4 w b xs n hn (by omega) h
    · rw [stepN_not (by omega)]
      exact narrow_neg w b xs v 4 (by omega) h
  · rw [stepN_bad hbad]
    by_cases h0 : 0 ≤ v
    · obtain ⟨n, rfl⟩ := Int.eq_ofNat_of_zero_le h0
      exact (narrow_bad_4 w b xs n bad hbad h).mono fun _ _ ⟨a, c⟩ => ⟨a, c ▸ h, c ▸ Fr.refl _ _⟩
    · exact (narrow_neg_bad w b xs bad v 4 (by omega) hbad h).mono fun _ _ ⟨a, c⟩ => ⟨a, c ▸ h, c ▸ Fr.refl _ _⟩
theorem putWord_any (w : World) (b : Nat) (xs : List UInt8) (v bad : Int) (hv : v < 9223372036854775808) (hx : xs.length ≤ 140737488355000) (h : PutIs w b xs bad) :
    Calls Tryd.prog 15 #[.pointer (some ⟨b, 0, none⟩), .int .i64 v] w fun r w' => r = .returned (.pointer (some ⟨b, 0, none⟩)) ∧ PutIs w' b (stepN 4 v xs bad).1 (stepN 4 v xs bad).2 ∧ Fr b w w' := by
  have H := narrow_4 w b xs v bad hv hx h
  clear hv
  go_enter Tryd.func15, Tryd.ntmps15
  go_wp2_with (go_at_call 42; refine H.mono ?_; rintro e w' ⟨rfl, h1, h2⟩)
  go_ret
  exact ⟨rfl, h1, h2⟩

/-- an int as its complement of 2^64 -/
def comp (v : Int) : Nat := (v % 18446744073709551616).toNat
theorem comp_lt (v : Int) : comp v < 18446744073709551616 := by unfold comp; omega
def stepI (v : Int) (xs : List UInt8) (bad : Int) : List UInt8 × Int := if bad = 0 then (xs ++ low 8 (comp v), 0) else (xs, bad)

theorem wrap_comp (v : Int) : IntKind.u64.wrap v = ((comp v : Nat) : Int) := by
  rw [IntKind.wrap_u64]; unfold comp; omega

theorem putInt_any (w : World) (b : Nat) (xs : List UInt8) (v bad : Int) (hx : xs.length ≤ 140737488355000) (h : PutIs w b xs bad) :
    Calls Tryd.prog 16 #[.pointer (some ⟨b, 0, none⟩), .int .i64 v] w fun r w' => r = .returned (.pointer (some ⟨b, 0, none⟩)) ∧ PutIs w' b (stepI v xs bad).1 (stepI v xs bad).2 ∧ Fr b w w' := by
  have H : Calls Tryd.prog 43 #[.pointer (some ⟨b, 0, none⟩), .int .u64 (IntKind.u64.wrap v), .int .i64 8] w fun r w' => r = .returned (.pointer (some ⟨b, 0, none⟩)) ∧ PutIs w' b (stepI v xs bad).1 (stepI v xs bad).2 ∧ Fr b w w' := by
    rw [wrap_comp]
    by_cases hbad : bad = 0
    · subst hbad
      exact (number_ok w b xs (comp v) 8 (comp_lt v) (by omega) hx h).mono fun _ _ ⟨a, c, d⟩ => ⟨a, .inl (by simpa [stepI] using c), d⟩
    · exact (number_bad w b xs bad _ _ h hbad).mono fun _ _ ⟨a, c⟩ => ⟨a, by simp only [stepI, if_neg hbad]; exact c ▸ h, c ▸ Fr.refl _ _⟩
  go_enter Tryd.func16, Tryd.ntmps16
  go_wp2_with (go_at_call 43; refine H.mono ?_; rintro e w' ⟨rfl, h1, h2⟩)
  go_ret
  exact ⟨rfl, h1, h2⟩

end Go.Proofs.YtadcmjcafimkeaaDoor.P1
