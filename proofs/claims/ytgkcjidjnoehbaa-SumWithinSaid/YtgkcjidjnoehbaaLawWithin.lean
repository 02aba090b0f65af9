/-
  P201: what is sealed some times is opened as often: the walk of the statement SumWithin.
-/
import Derived.Test.YtgkcjidjnoehbaaSumD
namespace Go.Proofs.Ytgkcjidjnoehbaa.P2
open Go Go.RowKit Go.Lib Go.Proofs.Ytgkcjidjnoehbaa.P0

def sealN (s : ByteArray) : Nat → ByteArray
  | 0 => s
  | k + 1 => sealOf (sealN s k)
theorem sealN_size (s : ByteArray) (k : Nat) : (sealN s k).size = s.size + 4 * k := by
  induction k with
  | zero => rfl
  | succ k ih => rw [sealN, seal_size, ih]; omega
theorem open_sealN (s : ByteArray) (k : Nat) : openS (sealN s (k + 1)) = sealN s k ∧ openE (sealN s (k + 1)) = 0 := open_seal _
theorem abc_cut (n : Nat) : ((⟨#[97, 98, 99]⟩ : ByteArray).extract 0 n).size < 4 := by
  rw [ByteArray.size_extract]
  have : (⟨#[97, 98, 99]⟩ : ByteArray).size = 3 := rfl
  omega

theorem within_skip (w : World) (s : ByteArray) (n : Int) (h : ¬ (s.size ≤ 800 ∧ 0 ≤ n ∧ n ≤ 6)) :
    Calls Try.prog 6 #[.string s, .int .i64 n] w fun r w' => r = .returned (.bool true) ∧ Below w.heap.size w w' := by
  have K := fun w' => Lib.hid (alive_any w')
  by_cases h0 : ¬ s.size ≤ 800
  · have k0 : decide ((800 : Int) < (s.size : Int)) = true := decide_eq_true (by omega)
    clear h
    go_enter Try.func6, Try.ntmps6
    go_wp2_with (go_at_call 8; refine (K _).out.mono ?_; rintro e w1 ⟨rfl, hb⟩)
    go_ret
    exact ⟨rfl, hb⟩
  have k0 : decide ((800 : Int) < (s.size : Int)) = false := decide_eq_false (by omega)
  by_cases h1 : n < 0
  · have k1 : decide (n < 0) = true := decide_eq_true h1
    clear h
    go_enter Try.func6, Try.ntmps6
    go_wp2_with (go_at_call 8; refine (K _).out.mono ?_; rintro e w1 ⟨rfl, hb⟩)
    go_ret
    exact ⟨rfl, hb⟩
  have k1 : decide (n < 0) = false := decide_eq_false h1
  have k2 : decide ((6 : Int) < n) = true := decide_eq_true (by omega)
  clear h
  go_enter Try.func6, Try.ntmps6
  go_wp2_with (go_at_call 8; refine (K _).out.mono ?_; rintro e w1 ⟨rfl, hb⟩)
  go_ret
  exact ⟨rfl, hb⟩

theorem within_in (w : World) (s : ByteArray) (n : Nat) (hs : s.size ≤ 800) (hn : n ≤ 6) :
    Calls Try.prog 6 #[.string s, .int .i64 n] w fun r w' => r = .returned (.bool true) ∧ Below w.heap.size w w' := by
  have K := fun w' => Lib.hid (alive_any w')
  have k0 : decide ((800 : Int) < (s.size : Int)) = false := decide_eq_false (by omega)
  have k1 : decide ((n : Int) < 0) = false := decide_eq_false (by omega)
  have k2 : decide ((6 : Int) < (n : Int)) = false := decide_eq_false (by omega)
  have hsl := fun w' (b : ByteArray) (hb : b.size ≤ 1000) => seal_any w' b (by omega)
  have HS := Lib.hid hsl
  have hop := fun w' (b : ByteArray) (hb : b.size ≤ 1000) => open_any w' b (by omega)
  have HO := Lib.hid hop
  clear hsl hop
  go_enter Try.func6, Try.ntmps6
  go_wp2_with (go_at_call 8; refine (K _).out.mono ?_; rintro e w1 ⟨rfl, hb1⟩)
  go_loopw [5, 6] (fun v i wr => ∃ k b, k ≤ n ∧ i = .int .i64 (k : Nat) ∧ v = .string b ∧ Hid (b = sealN s k) ∧ Below w.heap.size w wr) (fun _ i _ => n - (RowKit.intOf i).toNat)
  case atStart => exact ⟨0, s, Nat.zero_le _, rfl, rfl, rfl, hb1⟩
  case round =>
    clear hb1
    obtain ⟨k, b, hk, rfl, rfl, hbe, hB⟩ := hrel
    have hsz := sealN_size s k
    rw [← hbe.out] at hsz
    by_cases hlt : k < n
    · have hnx : Hid (sealOf b = sealN s (k + 1)) := by show _ = _; rw [hbe.out]; rfl
      have hz : b.size ≤ 1000 := by omega
      clear hsz
      go_wp2_with (go_at_call 15; refine (HS.out _ _ hz).mono ?_; rintro e w2 ⟨rfl, hb2⟩)
      go_roundw
      case rel => exact ⟨k + 1, _, by omega, by go_num, rfl, hnx, thenBelow hB hb2⟩
      case measure => simp [RowKit.intOf]; omega
    · obtain rfl : k = n := by omega
      have k3 : ((b.size : Int) != (s.size : Int) + 4 * (k : Int)) = false := by simp; omega
      clear hsz
      go_wp2
      go_loopw [5, 7] (fun v i wr => ∃ j b, j ≤ k ∧ i = .int .i64 (j : Nat) ∧ v = .string b ∧ Hid (b = sealN s (k - j)) ∧ Below w.heap.size w wr) (fun _ i _ => k - (RowKit.intOf i).toNat)
      case atStart => exact ⟨0, b, Nat.zero_le _, rfl, rfl, hbe, hB⟩
      case round =>
        clear hbe hB k3
        obtain ⟨j, b, hj, rfl, rfl, hbe, hB⟩ := hrel
        by_cases hlt : j < k
        · obtain ⟨e1, e2⟩ := open_sealN s (k - j - 1)
          have hsz := sealN_size s (k - j)
          rw [← hbe.out] at hsz
          have hz : b.size ≤ 1000 := by omega
          have H := fun w' => HO.out w' b hz
          rw [show k - j - 1 + 1 = k - j by omega, ← hbe.out] at e1 e2
          rw [e1, e2] at H
          have HH := Lib.hid H
          have hnx : Hid (sealN s (k - j - 1) = sealN s (k - (j + 1))) := by show _ = _; rw [Nat.sub_sub]
          clear H hsz e1 e2
          go_wp2_with (go_at_call 10; refine (HH.out _).mono ?_; rintro e w2 ⟨rfl, hb2⟩)
          go_roundw
          case rel => exact ⟨j + 1, _, by omega, by go_num, rfl, hnx, thenBelow hB hb2⟩
          case measure => simp [RowKit.intOf]; omega
        · obtain ⟨q, hq⟩ : ∃ q, q = k % 4 := ⟨_, rfl⟩
          obtain ⟨e1, e2⟩ := open_short (abc_cut q)
          have hz := abc_cut q
          have H := fun w' => HO.out w' ((⟨#[97, 98, 99]⟩ : ByteArray).extract 0 q) (by omega)
          rw [e1, e2] at H
          have HH := Lib.hid H
          have hc := same_true (show b = s by rw [hbe.out, show k - j = 0 by omega]; rfl)
          have r1 : ((k : Int) % 4) = (q : Int) := by omega
          have r2 : (q : Int) ≤ 3 := by omega
          have r3 : (0 : Int) ≤ (q : Int) := by omega
          clear H e1 e2 hz hq
          go_wp2_with (go_at_call 10; refine (HH.out _).mono ?_; rintro e w2 ⟨rfl, hb2⟩)
          go_ret
          exact ⟨rfl, thenBelow hB hb2⟩

theorem within_walk (w : World) (s : ByteArray) (n : Int) :
    Calls Try.prog 6 #[.string s, .int .i64 n] w fun r w' => r = .returned (.bool true) ∧ Below w.heap.size w w' := by
  by_cases h : s.size ≤ 800 ∧ 0 ≤ n ∧ n ≤ 6
  · obtain ⟨k, rfl⟩ := Int.eq_ofNat_of_zero_le h.2.1
    exact within_in w s k h.1 (by omega)
  · exact within_skip w s n h

end Go.Proofs.Ytgkcjidjnoehbaa.P2
