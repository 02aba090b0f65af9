/-
  Where a value stands, as a text: the reference's Ref and Unref.
-/
import Derived.Test.YtpbaodjmkdcihaaN1
import Derived.Test.YtpbaodjmkdcihaaRk0
namespace Go.Proofs.Ytpbaodjmkdcihaa.P11
open Go Go.RowKit Go.Lib Go.Proofs.Ytpbaodjmkdcihaa.PK
open Go.Proofs.Ytpbaodjmkdcihaa.P0 (low str str_size low_length size_app text_ext text_app str_list str_eq text_len same_true same_false rLow_any)
open Go.Proofs.Ytpbaodjmkdcihaa.PP (num num_lt num_low_fits rNum_any)

theorem drewN_below (w : World) (n : Nat) : Below w.heap.size w (w.drewN n) := ⟨rfl, rfl, rfl, Nat.le_refl _, fun _ _ => rfl⟩
/-- may a value of n bytes begin at first? -/
def refOk (first n : Int) : Prop := 2 ≤ first ∧ first < 4000 ∧ 0 ≤ n ∧ n ≤ 2000
instance (first n : Int) : Decidable (refOk first n) := by unfold refOk; infer_instance
def refT (first n : Nat) : ByteArray := str (low 2 first) ++ str (low 2 n)
def refB (first n : Int) : ByteArray × Int := if refOk first n then (refT first.toNat n.toNat, 0) else (⟨#[]⟩, 1)
/-- the two numbers of a text -/
def numA (s : ByteArray) : Nat := num (s.extract 0 2).data.toList
def numZ (s : ByteArray) : Nat := num (s.extract 2 s.size).data.toList
def unrefB (s : ByteArray) : Int × Int × Int := if s.size = 4 ∧ refOk (numA s) (numZ s) then (numA s, numZ s, 0) else (0, 0, 6)
theorem numA_lt (s : ByteArray) : numA s < 65536 := by
  have h := num_lt (s.extract 0 2).data.toList
  have h2 : 256 ^ (s.extract 0 2).data.toList.length ≤ 256 ^ 2 := Nat.pow_le_pow_right (by omega) (by rw [text_len, ByteArray.size_extract]; omega)
  unfold numA
  omega
theorem numZ_lt {s : ByteArray} (hs : s.size = 4) : numZ s < 65536 := by
  have h := num_lt (s.extract 2 s.size).data.toList
  have h2 : 256 ^ (s.extract 2 s.size).data.toList.length ≤ 256 ^ 2 := Nat.pow_le_pow_right (by omega) (by rw [text_len, ByteArray.size_extract]; omega)
  unfold numZ
  omega

set_option maxRecDepth 100000 in
set_option maxHeartbeats 1000000 in
theorem rRef_any (w : World) (first n : Int) : Calls Try.prog 9 #[.int .i64 first, .int .i64 n] w fun e w' => e = .returned (.tuple #[.string (refB first n).1, .int .i64 (refB first n).2]) ∧ Below w.heap.size w w' := by
  by_cases h0 : first < 2
  · have e : refB first n = (⟨#[]⟩, 1) := by unfold refB; rw [if_neg (fun h => by have := h.1; have := h.2.1; have := h.2.2.1; have := h.2.2.2; omega)]
    rw [e]
    clear e
    have k0 : decide (first < 2) = true := decide_eq_true h0
    clear h0
    go_enter Try.func9, Try.ntmps9
    go_wp2
    go_ret2
    exact ⟨rfl, Below.refl _ _⟩
  by_cases h1 : 4000 ≤ first
  · have e : refB first n = (⟨#[]⟩, 1) := by unfold refB; rw [if_neg (fun h => by have := h.1; have := h.2.1; have := h.2.2.1; have := h.2.2.2; omega)]
    rw [e]
    clear e
    have k0 : decide (first < 2) = false := decide_eq_false h0
    have k1 : decide (4000 ≤ first) = true := decide_eq_true h1
    clear h0 h1
    go_enter Try.func9, Try.ntmps9
    go_wp2
    go_ret2
    exact ⟨rfl, Below.refl _ _⟩
  by_cases h2 : n < 0
  · have e : refB first n = (⟨#[]⟩, 1) := by unfold refB; rw [if_neg (fun h => by have := h.1; have := h.2.1; have := h.2.2.1; have := h.2.2.2; omega)]
    rw [e]
    clear e
    have k0 : decide (first < 2) = false := decide_eq_false h0
    have k1 : decide (4000 ≤ first) = false := decide_eq_false h1
    have k2 : decide (n < 0) = true := decide_eq_true h2
    clear h0 h1 h2
    go_enter Try.func9, Try.ntmps9
    go_wp2
    go_ret2
    exact ⟨rfl, Below.refl _ _⟩
  by_cases h3 : 2000 < n
  · have e : refB first n = (⟨#[]⟩, 1) := by unfold refB; rw [if_neg (fun h => by have := h.1; have := h.2.1; have := h.2.2.1; have := h.2.2.2; omega)]
    rw [e]
    clear e
    have k0 : decide (first < 2) = false := decide_eq_false h0
    have k1 : decide (4000 ≤ first) = false := decide_eq_false h1
    have k2 : decide (n < 0) = false := decide_eq_false h2
    have k3 : decide (2000 < n) = true := decide_eq_true h3
    clear h0 h1 h2 h3
    go_enter Try.func9, Try.ntmps9
    go_wp2
    go_ret2
    exact ⟨rfl, Below.refl _ _⟩
  · obtain ⟨a, rfl⟩ := Int.eq_ofNat_of_zero_le (show 0 ≤ first by omega)
    obtain ⟨m, rfl⟩ := Int.eq_ofNat_of_zero_le (show 0 ≤ n by omega)
    have e : refB (a : Int) (m : Int) = (refT a m, 0) := by unfold refB; rw [if_pos ⟨by omega, by omega, by omega, by omega⟩]; rfl
    rw [e]
    clear e
    have k0 : decide ((a : Int) < 2) = false := decide_eq_false h0
    have k1 : decide ((4000 : Int) ≤ (a : Int)) = false := decide_eq_false h1
    have k2 : decide ((m : Int) < 0) = false := decide_eq_false h2
    have k3 : decide ((2000 : Int) < (m : Int)) = false := decide_eq_false h3
    have ha : a < 4000 := by omega
    have hm : m ≤ 2000 := by omega
    have L : Hid (∀ W, Calls Try.prog 23 #[.int .u64 a, .int .i64 2] W fun r w' => r = .returned (.string (str (low 2 a))) ∧ Below W.heap.size W w') := fun W => rLow_any W a 2 (by omega) (by omega)
    have M : Hid (∀ W, Calls Try.prog 23 #[.int .u64 m, .int .i64 2] W fun r w' => r = .returned (.string (str (low 2 m))) ∧ Below W.heap.size W w') := fun W => rLow_any W m 2 (by omega) (by omega)
    have hA : (str (low 2 a)).size = 2 := by rw [str_size, low_length]
    have hM : (str (low 2 m)).size = 2 := by rw [str_size, low_length]
    unfold refT
    generalize str (low 2 a) = A at *
    generalize str (low 2 m) = M2 at *
    have hAM : ¬ 9223372036854775807 < A.size + M2.size := by omega
    clear h0 h1 h2 h3
    go_enter Try.func9, Try.ntmps9
    go_wp2_with (first | (go_at_call 23; (with_reducible refine (L.out _).mono ?_); rintro e w1 ⟨rfl, hb⟩; have HB1 := Lib.hid hb; clear hb L) | (go_at_call 23; (with_reducible refine (M.out _).mono ?_); rintro e w2 ⟨rfl, hb⟩; have HB2 := Lib.hid (thenBelow HB1.out hb); clear hb))
    go_ret2
    exact ⟨rfl, HB2.out⟩

set_option maxRecDepth 100000 in
set_option maxHeartbeats 1000000 in
theorem rUnref_any (w : World) (s : ByteArray) : Calls Try.prog 11 #[.string s] w fun e w' => e = .returned (.tuple #[.int .i64 (unrefB s).1, .int .i64 (unrefB s).2.1, .int .i64 (unrefB s).2.2]) ∧ Below w.heap.size w w' := by
  by_cases hs : s.size = 4
  · have HA : Hid (∀ W, Calls Try.prog 27 #[.string (s.extract 0 2)] W fun r w' => r = .returned (.int .u64 (numA s)) ∧ w' = W) := fun W => (rNum_any W (s.extract 0 2) (by rw [ByteArray.size_extract]; omega)).mono fun _ _ ⟨a, d⟩ => ⟨a, d.symm⟩
    have HZ : Hid (∀ W, Calls Try.prog 27 #[.string (s.extract 2 s.size)] W fun r w' => r = .returned (.int .u64 (numZ s)) ∧ w' = W) := fun W => (rNum_any W (s.extract 2 s.size) (by rw [ByteArray.size_extract]; omega)).mono fun _ _ ⟨a, d⟩ => ⟨a, d.symm⟩
    rw [hs] at HZ
    have ha := numA_lt s
    have hz := numZ_lt hs
    have HR := Lib.hid (fun W => rRef_any W (numA s) (numZ s))
    have hU : unrefB s = if refOk (numA s) (numZ s) then ((numA s : Int), (numZ s : Int), 0) else (0, 0, 6) := by
      unfold unrefB
      by_cases h : refOk (numA s) (numZ s)
      · rw [if_pos ⟨hs, h⟩, if_pos h]
      · rw [if_neg (fun q => h q.2), if_neg h]
    rw [hU]
    clear hU
    have k0 : ((s.size : Int) != 4) = false := by simp; omega
    have k1 : (2 : Int) ≤ (s.size : Int) := by omega
    have k2 : (2 : Nat) ≤ s.size := by omega
    obtain ⟨A, hA⟩ : ∃ A, A = numA s := ⟨_, rfl⟩
    obtain ⟨Z, hZ⟩ : ∃ Z, Z = numZ s := ⟨_, rfl⟩
    rw [← hA] at ha HR HA ⊢
    rw [← hZ] at hz HR HZ ⊢
    clear hA hZ
    by_cases h : refOk A Z
    · have e : refB A Z = (refT A Z, 0) := by unfold refB; rw [if_pos h]; rfl
      rw [e] at HR
      rw [if_pos h]
      clear h e
      go_enter Try.func11, Try.ntmps11
      go_wp2
      go_quiet ((go_at_call 27; first | with_reducible exact Calls.quiet_of_same (HA.out _) | with_reducible exact Calls.quiet_of_same (HZ.out _)))
      go_wp2_with (go_at_call 9; (with_reducible refine (HR.out _).mono ?_); rintro e w1 ⟨rfl, hb⟩; have HB1 := Lib.hid (thenBelow (drewN_below w _) hb); clear hb)
      go_ret3
      exact ⟨rfl, HB1.out⟩
    · have e : refB A Z = (⟨#[]⟩, 1) := by unfold refB; rw [if_neg h]
      rw [e] at HR
      rw [if_neg h]
      clear h e
      go_enter Try.func11, Try.ntmps11
      go_wp2
      go_quiet ((go_at_call 27; first | with_reducible exact Calls.quiet_of_same (HA.out _) | with_reducible exact Calls.quiet_of_same (HZ.out _)))
      go_wp2_with (go_at_call 9; (with_reducible refine (HR.out _).mono ?_); rintro e w1 ⟨rfl, hb⟩; have HB1 := Lib.hid (thenBelow (drewN_below w _) hb); clear hb)
      go_ret3
      exact ⟨rfl, HB1.out⟩
  · have e : unrefB s = (0, 0, 6) := by unfold unrefB; rw [if_neg (fun h => hs h.1)]
    rw [e]
    have k0 : ((s.size : Int) != 4) = true := by simp; omega
    clear e hs
    go_enter Try.func11, Try.ntmps11
    go_wp2
    go_ret3
    exact ⟨rfl, Below.refl _ _⟩

end Go.Proofs.Ytpbaodjmkdcihaa.P11
