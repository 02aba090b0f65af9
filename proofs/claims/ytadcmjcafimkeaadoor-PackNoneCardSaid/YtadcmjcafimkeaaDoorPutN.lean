/-
  Package pack's Put, of a nil one.
-/
import Derived.Test.YtadcmjcafimkeaaDoorPutD
namespace Go.Proofs.YtadcmjcafimkeaaDoor.P1
open Go Go.RowKit Go.Lib

theorem putByte_nil (w : World) (v : Int) :
    Calls Tryd.prog 12 #[.pointer none, .int .i64 v] w fun r w' => r = .returned (.pointer none) ∧ w = w' := by
  have H : Calls Tryd.prog 42 #[.pointer none, .int .i64 v, .int .i64 1] w fun r w' => r = .returned (.pointer none) ∧ w = w' := by
    by_cases h0 : 0 ≤ v
    · obtain ⟨n, rfl⟩ := Int.eq_ofNat_of_zero_le h0
      have k2 : decide ((n : Int) < 0) = false := by simp
      clear h0
      by_cases hv : n < 256
      · have k1 : (((n : Int) / 256) != 0) = false := by simp; omega
        go_enter Tryd.func42, Tryd.ntmps42
        go_wp2_with (go_at_call 43; refine (number_nil _ _ _).mono ?_; rintro e w' ⟨rfl, rfl⟩)
        go_ret
        exact ⟨rfl, rfl⟩
      · have k1 : (((n : Int) / 256) != 0) = true := by simp; omega
        go_enter Tryd.func42, Tryd.ntmps42
        go_wp2_with (go_at_call 44; refine (fail_nil _ _).mono ?_; rintro e w' ⟨rfl, rfl⟩)
        go_ret
        exact ⟨rfl, rfl⟩
    · have h1 : v < 0 := by omega
      go_enter Tryd.func42, Tryd.ntmps42
      go_wp2_with (go_at_call 44; refine (fail_nil _ _).mono ?_; rintro e w' ⟨rfl, rfl⟩)
      go_ret
      exact ⟨rfl, rfl⟩
  have HH := Lib.hid H
  clear H
  go_enter Tryd.func12, Tryd.ntmps12
  go_wp2_with (go_at_call 42; refine HH.out.mono ?_; rintro e w' ⟨rfl, rfl⟩)
  go_ret
  exact ⟨rfl, rfl⟩

theorem putHalf_nil (w : World) (v : Int) :
    Calls Tryd.prog 14 #[.pointer none, .int .i64 v] w fun r w' => r = .returned (.pointer none) ∧ w = w' := by
  have H : Calls Tryd.prog 42 #[.pointer none, .int .i64 v, .int .i64 2] w fun r w' => r = .returned (.pointer none) ∧ w = w' := by
    by_cases h0 : 0 ≤ v
    · obtain ⟨n, rfl⟩ := Int.eq_ofNat_of_zero_le h0
      have k2 : decide ((n : Int) < 0) = false := by simp
      clear h0
      by_cases hv : n < 65536
      · have k1 : (((n : Int) / 65536) != 0) = false := by simp; omega
        go_enter Tryd.func42, Tryd.ntmps42
        go_wp2_with (go_at_call 43; refine (number_nil _ _ _).mono ?_; rintro e w' ⟨rfl, rfl⟩)
        go_ret
        exact ⟨rfl, rfl⟩
      · have k1 : (((n : Int) / 65536) != 0) = true := by simp; omega
        go_enter Tryd.func42, Tryd.ntmps42
        go_wp2_with (go_at_call 44; refine (fail_nil _ _).mono ?_; rintro e w' ⟨rfl, rfl⟩)
        go_ret
        exact ⟨rfl, rfl⟩
    · have h1 : v < 0 := by omega
      go_enter Tryd.func42, Tryd.ntmps42
      go_wp2_with (go_at_call 44; refine (fail_nil _ _).mono ?_; rintro e w' ⟨rfl, rfl⟩)
      go_ret
      exact ⟨rfl, rfl⟩
  have HH := Lib.hid H
  clear H
  go_enter Tryd.func14, Tryd.ntmps14
  go_wp2_with (go_at_call 42; refine HH.out.mono ?_; rintro e w' ⟨rfl, rfl⟩)
  go_ret
  exact ⟨rfl, rfl⟩

theorem putWord_nil (w : World) (v : Int) :
    Calls Tryd.prog 15 #[.pointer none, .int .i64 v] w fun r w' => r = .returned (.pointer none) ∧ w = w' := by
  have H : Calls Tryd.prog 42 #[.pointer none, .int .i64 v, .int .i64 4] w fun r w' => r = .returned (.pointer none) ∧ w = w' := by
    by_cases h0 : 0 ≤ v
    · obtain ⟨n, rfl⟩ := Int.eq_ofNat_of_zero_le h0
      have k2 : decide ((n : Int) < 0) = false := by simp
      clear h0
      by_cases hv : n < 4294967296
      · have k1 : (((n : Int) / 4294967296) != 0) = false := by simp; omega
        go_enter Tryd.func42, Tryd.ntmps42
        go_wp2_with (go_at_call 43; refine (number_nil _ _ _).mono ?_; rintro e w' ⟨rfl, rfl⟩)
        go_ret
        exact ⟨rfl, rfl⟩
      · have k1 : (((n : Int) / 4294967296) != 0) = true := by simp; omega
        go_enter Tryd.func42, Tryd.ntmps42
        go_wp2_with (go_at_call 44; refine (fail_nil _ _).mono ?_; rintro e w' ⟨rfl, rfl⟩)
        go_ret
        exact ⟨rfl, rfl⟩
    · have h1 : v < 0 := by omega
      go_enter Tryd.func42, Tryd.ntmps42
      go_wp2_with (go_at_call 44; refine (fail_nil _ _).mono ?_; rintro e w' ⟨rfl, rfl⟩)
      go_ret
      exact ⟨rfl, rfl⟩
  have HH := Lib.hid H
  clear H
  go_enter Tryd.func15, Tryd.ntmps15
  go_wp2_with (go_at_call 42; refine HH.out.mono ?_; rintro e w' ⟨rfl, rfl⟩)
  go_ret
  exact ⟨rfl, rfl⟩

theorem putInt_nil (w : World) (v : Int) :
    Calls Tryd.prog 16 #[.pointer none, .int .i64 v] w fun r w' => r = .returned (.pointer none) ∧ w = w' := by
  go_enter Tryd.func16, Tryd.ntmps16
  go_wp2_with (go_at_call 43; refine (number_nil _ _ _).mono ?_; rintro e w' ⟨rfl, rfl⟩)
  go_ret
  exact ⟨rfl, rfl⟩
theorem putText_nil (w : World) (s : ByteArray) (hs : s.size ≤ 65535) :
    Calls Tryd.prog 18 #[.pointer none, .string s] w fun r w' => r = .returned (.pointer none) ∧ w = w' := by
  have k1 : decide ((65535 : Int) < (s.size : Int)) = false := by simp; omega
  go_enter Tryd.func18, Tryd.ntmps18
  go_wp2_with (first | (go_at_call 14; refine (putHalf_nil _ _).mono ?_; rintro e w1 ⟨rfl, rfl⟩) | (go_at_call 20; refine (raw_nil _ _).mono ?_; rintro e w2 ⟨rfl, rfl⟩))
  go_ret
  exact ⟨rfl, rfl⟩

end Go.Proofs.YtadcmjcafimkeaaDoor.P1
