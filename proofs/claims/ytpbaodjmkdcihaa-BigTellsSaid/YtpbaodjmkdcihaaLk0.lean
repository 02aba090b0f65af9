/-
  Package pack: what was put, read.
-/
import Derived.Test.YtpbaodjmkdcihaaGk0
namespace Go.Proofs.Ytpbaodjmkdcihaa.PP
open Go Go.RowKit Go.Lib Go.Proofs.Ytpbaodjmkdcihaa.P0

theorem num_append (a b : List UInt8) : num (a ++ b) = num a + 256 ^ a.length * num b := by
  induction a with
  | nil => simp [num]
  | cons c r ih =>
    simp only [List.cons_append, num, ih, List.length_cons, Nat.pow_succ, Nat.mul_add, ← Nat.add_assoc]
    rw [Nat.mul_comm (256 ^ r.length) 256, Nat.mul_assoc]
theorem num_low (n v : Nat) : num (low n v) = v % 256 ^ n := by
  induction n with
  | zero => simp [low, num, Nat.mod_one]
  | succ n ih =>
    rw [low_succ, num_append, ih, low_length]
    have e : num [UInt8.ofNat (v / 256 ^ n)] = v / 256 ^ n % 256 := by
      simp [num, UInt8.toNat_ofNat']
    rw [e, Nat.pow_succ, Nat.mod_mul]
theorem num_low_fits {n v : Nat} (h : v < 256 ^ n) : num (low n v) = v := by rw [num_low, Nat.mod_eq_of_lt h]

theorem str_cut (l : List UInt8) (i j : Nat) : (str l).extract i j = str ((l.take j).drop i) := by
  apply ByteArray.ext
  apply Array.toList_inj.1
  rw [Lib.extract_data, str_list, str_list, List.take_drop]
  by_cases h : i ≤ j
  · rw [Nat.add_sub_cancel' h]
  · rw [show j - i = 0 by omega, Nat.add_zero, List.drop_eq_nil_of_le (by simp; omega), List.drop_eq_nil_of_le (by simp; omega)]
theorem str_front (a r : List UInt8) : (str (a ++ r)).extract 0 a.length = str a := by
  rw [str_cut]; simp
theorem str_behind (a r : List UInt8) : (str (a ++ r)).extract a.length (str (a ++ r)).size = str r := by
  rw [str_cut, str_size, List.take_of_length_le (Nat.le_refl _), List.drop_left]

theorem getNum_of (a r : List UInt8) : getNum a.length (str (a ++ r)) 0 = (wrap64 (num a), str r, 0) := by
  unfold getNum
  rw [if_pos rfl, if_pos (by rw [str_size]; simp), str_behind, str_list, List.take_left]
theorem getNum_low (n v : Nat) (r : List UInt8) (h : v < 256 ^ n) : getNum n (str (low n v ++ r)) 0 = (wrap64 v, str r, 0) := by
  have e := getNum_of (low n v) r
  rwa [low_length, num_low_fits h] at e
theorem getStr_of (a r : List UInt8) : getStr (a.length : Nat) (str (a ++ r)) 0 = (str a, str r, 0) := by
  unfold getStr
  rw [if_pos rfl, if_neg (by omega), if_pos (by rw [str_size]; simp; omega)]
  simp only [Int.toNat_natCast]
  rw [str_front, str_behind]
theorem wrap_small (n : Nat) (h : n < 9223372036854775808) : wrap64 (n : Int) = n := by unfold wrap64; omega
theorem getTxt_of (a r : List UInt8) (h : a.length ≤ 65535) : getTxt (str (low 2 a.length ++ (a ++ r))) 0 = (str a, str r, 0) := by
  unfold getTxt
  rw [getNum_low 2 a.length (a ++ r) (by omega)]
  simp only
  rw [wrap_small _ (by omega), getStr_of]
theorem wrap_of_comp (c : Int) (h0 : -9223372036854775808 ≤ c) (h1 : c ≤ 9223372036854775807) : wrap64 (comp c : Int) = c := by
  unfold wrap64 comp; omega
theorem getInt_of (c : Int) (r : List UInt8) (h0 : -9223372036854775808 ≤ c) (h1 : c ≤ 9223372036854775807) : getNum 8 (str (low 8 (comp c) ++ r)) 0 = (c, str r, 0) := by
  rw [getNum_low 8 (comp c) r (comp_lt c), wrap_of_comp c h0 h1]


end Go.Proofs.Ytpbaodjmkdcihaa.PP
