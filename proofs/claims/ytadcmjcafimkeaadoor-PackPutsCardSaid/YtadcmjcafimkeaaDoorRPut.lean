/-
  The reference's Low, Fit, Text, by contracts.
-/
import Derived.Test.YtadcmjcafimkeaaDoorLists1
namespace Go.Proofs.YtadcmjcafimkeaaDoor.P1
open Go Go.RowKit Go.Lib

theorem rLow_any (w : World) (n size : Nat) (hn : n < 18446744073709551616) (hs : size ≤ 8) :
    Calls Tryd.prog 17 #[.int .u64 n, .int .i64 size] w fun r w' => r = .returned (.string (str (low size n))) ∧ Below w.heap.size w w' := by
  obtain ⟨i0, hi, hz0, hz1, hz2⟩ := info_parts infoByte
  go_enter Tryd.func17, Tryd.ntmps17
  go_wp2
  go_loopw [0, 5, 6] (fun v b i wr => ∃ k x : Nat, k ≤ size ∧ i = .int .i64 k ∧ v = .int .u64 (x : Int) ∧ Hid (x = n / 256 ^ k) ∧ x < 18446744073709551616 ∧ wr.ownsRow w.heap.size 5 1 b k (cells (low k n)) ∧ Below w.heap.size w wr) (fun _ _ i _ => size - (RowKit.intOf i).toNat)
  case atStart => exact ⟨0, n, Nat.zero_le _, rfl, rfl, (by simp : n = n / 256 ^ 0), hn, World.ownsRow_nil _ _ _ _, Below.refl _ _⟩
  case round =>
    obtain ⟨k, x, hk, rfl, rfl, hxe, hxl, hown, hbel⟩ := hrel
    by_cases hks : k < size
    · go_wp2_with (at_builtin; refine wpList_append_own _ rfl _ _ 26 rfl w.heap.size 5 i0 (.int .u8 0) 1 1 Tryd.underlying26 hi hz0 hz1 hz2 rfl (by decide) _ _ _ rfl (hown.alloc _) ⟨wr.heap.size, 0, none⟩ 1 1 [.int .u8 ((x : Int) % 256)] rfl rfl ?c1 ?c2 ?c3 ?c4 ?c5 ?_)
      case c1 => exact cell_one_new _ _ _
      case c2 => intro u hu; simp at hu; subst hu; rfl
      case c3 => unfold maxLen; omega
      case c4 => omega
      case c5 => have := hbel.size; simp; omega
      intro v' w2 hown' hgrow _
      have hb2 : Below w.heap.size w w2 := (hbel.alloc hbel.size _).grown hgrow (by have := hbel.size; simp; omega) (fun q hq => (hown.lt q hq).1)
      have hys : w2.ownsRow w.heap.size 5 1 v' (k + 1) (cells (low (k + 1) n)) := by
        rw [low_succ, ← hxe.out, cells_snoc]; exact hown'
      have hxe' : Hid (x / 256 = n / 256 ^ (k + 1)) := div_step hxe.out
      have hx8 : x / 256 < 18446744073709551616 := by omega
      clear hown' hgrow hown hbel
      go_wp2
      go_roundw
      case rel => exact ⟨k + 1, x / 256, by omega, by go_num, by go_num, hxe', hx8, hys, hb2⟩
      case measure => simp [RowKit.intOf]; omega
    · obtain rfl : k = size := by omega
      obtain ⟨a, c, rfl⟩ := len_owned hown
      have hcv := run_owned_string wr hown
      have HI : Hid (str (low k n) = ⟨(low k n).toArray⟩) := rfl
      generalize (⟨(low k n).toArray⟩ : ByteArray) = z at hcv HI
      go_wp2
      go_ret
      exact ⟨by rw [HI.out]; rfl, hbel⟩

/-- what Fit tells: the bytes, if the number fits -/
def fitS (n : Nat) (v : Int) : ByteArray := if 0 ≤ v ∧ v < 256 ^ n then str (low n v.toNat) else ⟨#[]⟩
def fitB (n : Nat) (v : Int) : Bool := decide (0 ≤ v ∧ v < 256 ^ n)
theorem fit_yes {n : Nat} {v : Int} (h : 0 ≤ v ∧ v < 256 ^ n) : fitS n v = str (low n v.toNat) ∧ fitB n v = true := ⟨if_pos h, decide_eq_true h⟩
theorem fit_no {n : Nat} {v : Int} (h : ¬ (0 ≤ v ∧ v < 256 ^ n)) : fitS n v = ⟨#[]⟩ ∧ fitB n v = false := ⟨if_neg h, decide_eq_false h⟩
theorem rFit_neg (w : World) (v s : Int) (hv : v < 0) :
    Calls Tryd.prog 13 #[.int .i64 v, .int .i64 s] w fun r w' => r = .returned (.tuple #[.string ⟨#[]⟩, .bool false]) ∧ Below w.heap.size w w' := by
  go_enter Tryd.func13, Tryd.ntmps13
  go_wp2
  go_ret2
  exact ⟨rfl, Below.refl _ _⟩

theorem rFit_1 (w : World) (v : Int) (hv : v < 9223372036854775808) :
    Calls Tryd.prog 13 #[.int .i64 v, .int .i64 1] w fun r w' => r = .returned (.tuple #[.string (fitS 1 v), .bool (fitB 1 v)]) ∧ Below w.heap.size w w' := by
  by_cases h0 : 0 ≤ v
  · obtain ⟨n, rfl⟩ := Int.eq_ofNat_of_zero_le h0
    have k0 : decide ((n : Int) < 0) = false := by simp
    by_cases hn : n < 256
    · obtain ⟨e1, e2⟩ := fit_yes (n := 1) (v := (n : Int)) ⟨by omega, by omega⟩
      rw [e1, e2, Int.toNat_natCast]
      have k1 : decide ((256 : Int) ≤ (n : Int)) = false := decide_eq_false (by omega)
      have k1' : decide (256 ≤ n) = false := decide_eq_false (by omega)
      clear h0 hv e1 e2
      have H := Lib.hid (rLow_any w n 1 (by omega) (by omega))
      go_enter Tryd.func13, Tryd.ntmps13
      go_wp2_with (go_at_call 17; refine H.out.mono ?_; rintro e w1 ⟨rfl, hb⟩)
      go_ret2
      exact ⟨rfl, hb⟩
    · obtain ⟨e1, e2⟩ := fit_no (n := 1) (v := (n : Int)) (by omega)
      rw [e1, e2]
      have k1 : decide ((256 : Int) ≤ (n : Int)) = true := decide_eq_true (by omega)
      have k1' : decide (256 ≤ n) = true := decide_eq_true (by omega)
      clear h0 e1 e2
      go_enter Tryd.func13, Tryd.ntmps13
      go_wp2
      go_ret2
      exact ⟨rfl, Below.refl _ _⟩
  · obtain ⟨e1, e2⟩ := fit_no (n := 1) (v := v) (by omega)
    rw [e1, e2]
    exact rFit_neg w v 1 (by omega)

theorem rFit_2 (w : World) (v : Int) (hv : v < 9223372036854775808) :
    Calls Tryd.prog 13 #[.int .i64 v, .int .i64 2] w fun r w' => r = .returned (.tuple #[.string (fitS 2 v), .bool (fitB 2 v)]) ∧ Below w.heap.size w w' := by
  by_cases h0 : 0 ≤ v
  · obtain ⟨n, rfl⟩ := Int.eq_ofNat_of_zero_le h0
    have k0 : decide ((n : Int) < 0) = false := by simp
    by_cases hn : n < 65536
    · obtain ⟨e1, e2⟩ := fit_yes (n := 2) (v := (n : Int)) ⟨by omega, by omega⟩
      rw [e1, e2, Int.toNat_natCast]
      have k1 : decide ((65536 : Int) ≤ (n : Int)) = false := decide_eq_false (by omega)
      have k1' : decide (65536 ≤ n) = false := decide_eq_false (by omega)
      clear h0 hv e1 e2
      have H := Lib.hid (rLow_any w n 2 (by omega) (by omega))
      go_enter Tryd.func13, Tryd.ntmps13
      go_wp2_with (go_at_call 17; refine H.out.mono ?_; rintro e w1 ⟨rfl, hb⟩)
      go_ret2
      exact ⟨rfl, hb⟩
    · obtain ⟨e1, e2⟩ := fit_no (n := 2) (v := (n : Int)) (by omega)
      rw [e1, e2]
      have k1 : decide ((65536 : Int) ≤ (n : Int)) = true := decide_eq_true (by omega)
      have k1' : decide (65536 ≤ n) = true := decide_eq_true (by omega)
      clear h0 e1 e2
      go_enter Tryd.func13, Tryd.ntmps13
      go_wp2
      go_ret2
      exact ⟨rfl, Below.refl _ _⟩
  · obtain ⟨e1, e2⟩ := fit_no (n := 2) (v := v) (by omega)
    rw [e1, e2]
    exact rFit_neg w v 2 (by omega)

theorem rFit_4 (w : World) (v : Int) (hv : v < 9223372036854775808) :
    Calls Tryd.prog 13 #[.int .i64 v, .int .i64 4] w fun r w' => r = .returned (.tuple #[.string (fitS 4 v), .bool (fitB 4 v)]) ∧ Below w.heap.size w w' := by
  by_cases h0 : 0 ≤ v
  · obtain ⟨n, rfl⟩ := Int.eq_ofNat_of_zero_le h0
    have k0 : decide ((n : Int) < 0) = false := by simp
    by_cases hn : n < 4294967296
    · obtain ⟨e1, e2⟩ := fit_yes (n := 4) (v := (n : Int)) ⟨by omega, by omega⟩
      rw [e1, e2, Int.toNat_natCast]
      have k1 : decide ((4294967296 : Int) ≤ (n : Int)) = false := decide_eq_false (by omega)
      have k1' : decide (4294967296 ≤ n) = false := decide_eq_false (by omega)
      clear h0 hv e1 e2
      have H := Lib.hid (rLow_any w n 4 (by omega) (by omega))
      go_enter Tryd.func13, Tryd.ntmps13
      go_wp2_with (go_at_call 17; refine H.out.mono ?_; rintro e w1 ⟨rfl, hb⟩)
      go_ret2
      exact ⟨rfl, hb⟩
    · obtain ⟨e1, e2⟩ := fit_no (n := 4) (v := (n : Int)) (by omega)
      rw [e1, e2]
      have k1 : decide ((4294967296 : Int) ≤ (n : Int)) = true := decide_eq_true (by omega)
      have k1' : decide (4294967296 ≤ n) = true := decide_eq_true (by omega)
      clear h0 e1 e2
      go_enter Tryd.func13, Tryd.ntmps13
      go_wp2
      go_ret2
      exact ⟨rfl, Below.refl _ _⟩
  · obtain ⟨e1, e2⟩ := fit_no (n := 4) (v := v) (by omega)
    rw [e1, e2]
    exact rFit_neg w v 4 (by omega)

def textS (s : ByteArray) : ByteArray := if s.size ≤ 65535 then str (low 2 s.size) ++ s else ⟨#[]⟩
def textB (s : ByteArray) : Bool := decide (s.size ≤ 65535)
theorem rText_any (w : World) (s : ByteArray) (hs : s.size ≤ 1000000) :
    Calls Tryd.prog 19 #[.string s] w fun r w' => r = .returned (.tuple #[.string (textS s), .bool (textB s)]) ∧ Below w.heap.size w w' := by
  by_cases h : s.size ≤ 65535
  · have e1 : textS s = str (low 2 s.size) ++ s := if_pos h
    have e2 : textB s = true := decide_eq_true h
    rw [e1, e2]
    have H := rLow_any w s.size 2 (by omega) (by omega)
    have hz : (str (low 2 s.size)).size = 2 := by rw [str_size, low_length]
    generalize str (low 2 s.size) = z at *
    have hz2 : z.size ≤ 2 := by omega
    have HH := Lib.hid H
    have k1 : decide ((65535 : Int) < (s.size : Int)) = false := decide_eq_false (by omega)
    clear H e1 e2 hz h
    go_enter Tryd.func19, Tryd.ntmps19
    go_wp2_with (go_at_call 17; refine HH.out.mono ?_; rintro e w1 ⟨rfl, hb⟩)
    go_ret2
    exact ⟨rfl, hb⟩
  · have e1 : textS s = ⟨#[]⟩ := if_neg h
    have e2 : textB s = false := decide_eq_false h
    rw [e1, e2]
    have k1 : decide ((65535 : Int) < (s.size : Int)) = true := decide_eq_true (by omega)
    clear e1 e2 h
    go_enter Tryd.func19, Tryd.ntmps19
    go_wp2
    go_ret2
    exact ⟨rfl, Below.refl _ _⟩

end Go.Proofs.YtadcmjcafimkeaaDoor.P1
