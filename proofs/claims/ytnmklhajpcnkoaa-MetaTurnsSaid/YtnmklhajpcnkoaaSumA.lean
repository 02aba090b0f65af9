/-
  Check sums as numbers: package sum's step and Of, the reference's Sum, by contracts.
-/
import Derived.Test.YtnmklhajpcnkoaaBase0
namespace Go.Proofs.Ytnmklhajpcnkoaa.P2
open Go Go.RowKit Go.Lib Go.Proofs.Ytnmklhajpcnkoaa.P0

/-- a sum over one bit -/
def bit1 (x : Nat) : Nat := if x % 2 = 1 then x / 2 ^^^ 2197175160 else x / 2
/-- a sum over n bits -/
def bitN : Nat → Nat → Nat
  | 0, x => x
  | n + 1, x => bit1 (bitN n x)
/-- a sum over bytes -/
def upd (x : Nat) (l : List UInt8) : Nat := l.foldl (fun x c => bitN 8 (x ^^^ c.toNat)) x
/-- the check sum of bytes -/
def crc (l : List UInt8) : Nat := 4294967295 ^^^ upd 4294967295 l

theorem bit1_lt {x : Nat} (h : x < 4294967296) : bit1 x < 4294967296 := by
  unfold bit1
  split
  · exact Nat.xor_lt_two_pow (n := 32) (by omega) (by decide)
  · omega
theorem bitN_lt {x : Nat} (h : x < 4294967296) (n : Nat) : bitN n x < 4294967296 := by
  induction n with
  | zero => exact h
  | succ n ih => exact bit1_lt ih
theorem xor_byte_lt {x : Nat} (h : x < 4294967296) (c : UInt8) : x ^^^ c.toNat < 4294967296 :=
  Nat.xor_lt_two_pow (n := 32) (by omega) (by have := c.toNat_lt; omega)
theorem upd_lt {x : Nat} (h : x < 4294967296) (l : List UInt8) : upd x l < 4294967296 := by
  induction l generalizing x with
  | nil => exact h
  | cons c r ih => exact ih (bitN_lt (xor_byte_lt h c) 8)
theorem upd_append (x : Nat) (a b : List UInt8) : upd x (a ++ b) = upd (upd x a) b := by simp [upd]
theorem upd_nil (x : Nat) : upd x [] = x := rfl
theorem upd_snoc (x : Nat) (a : List UInt8) (c : UInt8) : upd x (a ++ [c]) = bitN 8 (upd x a ^^^ c.toNat) := by simp [upd]
theorem crc_lt (l : List UInt8) : crc l < 4294967296 :=
  Nat.xor_lt_two_pow (n := 32) (by decide) (upd_lt (by decide) l)

/-- one bit as the code reckons it -/
theorem step_bits {x : Nat} (h : x < 4294967296) :
    bits .xor .u32 ((x : Int) / 2) (bits .and .u32 2197175160 (-bits .and .u32 (x : Int) 1 % 4294967296)) = (bit1 x : Int) := by
  have e1 : bits .and .u32 (x : Int) 1 = ((x % 2 : Nat) : Int) := by
    have := u32_and_nat x 1 h (by decide)
    rw [Nat.and_one_is_mod] at this
    exact this
  have e0 : ((x : Int) / 2) = ((x / 2 : Nat) : Int) := by omega
  rw [e1, e0]
  unfold bit1
  rcases Nat.mod_two_eq_zero_or_one x with hx | hx
  · rw [hx, if_neg (by decide)]
    have e2 : bits .and .u32 2197175160 (-((0 : Nat) : Int) % 4294967296) = ((0 : Nat) : Int) := by kernel_rfl
    rw [e2, u32_xor_nat (x / 2) 0 (by omega) (by decide), Nat.xor_zero]
  · rw [hx, if_pos rfl]
    have e2 : bits .and .u32 2197175160 (-((1 : Nat) : Int) % 4294967296) = ((2197175160 : Nat) : Int) := by kernel_rfl
    rw [e2, u32_xor_nat (x / 2) 2197175160 (by omega) (by decide)]

theorem step_any (w : World) (x : Nat) (h : x < 4294967296) :
    Calls Try.prog 71 #[.int .u32 x] w fun r w' => r = .returned (.int .u32 (bitN 8 x : Nat)) ∧ w = w' := by
  go_enter Try.func71, Try.ntmps71
  go_wp2
  go_loop [0, 3] (fun v i => ∃ k y : Nat, k ≤ 8 ∧ i = .int .i64 k ∧ v = .int .u32 (y : Int) ∧ y < 4294967296 ∧ Hid (y = bitN k x)) (fun _ i => 8 - (RowKit.intOf i).toNat)
  case atStart => exact ⟨0, x, by omega, rfl, rfl, h, rfl⟩
  case round =>
    obtain ⟨k, y, hk, rfl, rfl, hy, hyx⟩ := hrel
    have hs := Lib.hid (step_bits hy)
    by_cases h8 : k < 8
    · go_wp2
      go_round
      case rel => exact ⟨k + 1, bit1 y, by omega, by go_num, congrArg _ hs.out, bit1_lt hy, by rw [hyx.out]; rfl⟩
      case measure => simp [RowKit.intOf]; omega
    · have h9 : Hid (k = 8) := by show k = 8; omega
      go_wp2
      go_ret
      exact ⟨by rw [hyx.out, h9.out]; rfl, rfl⟩

end Go.Proofs.Ytnmklhajpcnkoaa.P2
