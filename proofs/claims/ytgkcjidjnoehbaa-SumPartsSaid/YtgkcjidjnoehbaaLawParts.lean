/-
  P201: how a text is cut into parts does not matter: the walk of the statement SumParts.
-/
import Derived.Test.YtgkcjidjnoehbaaSumD
namespace Go.Proofs.Ytgkcjidjnoehbaa.P2
open Go Go.RowKit Go.Lib Go.Proofs.Ytgkcjidjnoehbaa.P0

theorem of1 (w : World) (n : Nat) (hn : w.heap.size = n) (a : ByteArray) (ha : a.size ≤ 9223372036854775807) :
    Calls Try.prog 12 #[.slice (some ⟨n, 0, none⟩) 1 1] (w.alloc (.cells #[.string a] 9)) fun r w' => r = .returned (.int .u32 (crc a.data.toList)) ∧ w.alloc (.cells #[.string a] 9) = w' := by
  subst hn
  have H := of_any _ _ _ (TextsIn.new w [a] 1 (by simp) (fun i h => by
    obtain rfl : i = 0 := by simpa using h
    exact ha))
  rw [show allOf [a] = a.data.toList by simp [allOf]] at H
  exact H
theorem of2 (w : World) (n : Nat) (hn : w.heap.size = n) (a b : ByteArray) (ha : a.size ≤ 9223372036854775807) (hb : b.size ≤ 9223372036854775807) :
    Calls Try.prog 12 #[.slice (some ⟨n, 0, none⟩) 2 2] (w.alloc (.cells #[.string a, .string b] 9)) fun r w' => r = .returned (.int .u32 (crc (a.data.toList ++ b.data.toList))) ∧ w.alloc (.cells #[.string a, .string b] 9) = w' := by
  subst hn
  have H := of_any _ _ _ (TextsIn.new w [a, b] 2 (by simp) (fun i h => by
    match i, h with
    | 0, _ => exact ha
    | 1, _ => exact hb))
  rw [show allOf [a, b] = a.data.toList ++ b.data.toList by simp [allOf]] at H
  exact H
theorem of4 (w : World) (n : Nat) (hn : w.heap.size = n) (a b : ByteArray) (ha : a.size ≤ 9223372036854775807) (hb : b.size ≤ 9223372036854775807) :
    Calls Try.prog 12 #[.slice (some ⟨n, 0, none⟩) 4 4] (w.alloc (.cells #[.string ⟨#[]⟩, .string a, .string ⟨#[]⟩, .string b] 9)) fun r w' => r = .returned (.int .u32 (crc (a.data.toList ++ b.data.toList))) ∧ w.alloc (.cells #[.string ⟨#[]⟩, .string a, .string ⟨#[]⟩, .string b] 9) = w' := by
  subst hn
  have H := of_any _ _ _ (TextsIn.new w [⟨#[]⟩, a, ⟨#[]⟩, b] 4 (by simp) (fun i h => by
    match i, h with
    | 0, _ => exact Nat.zero_le _
    | 1, _ => exact ha
    | 2, _ => exact Nat.zero_le _
    | 3, _ => exact hb))
  rw [show allOf [⟨#[]⟩, a, ⟨#[]⟩, b] = a.data.toList ++ b.data.toList by simp [allOf]] at H
  exact H
theorem of0 (w : World) :
    Calls Try.prog 12 #[.slice none 0 0] w fun r w' => r = .returned (.int .u32 (crc [])) ∧ w = w' :=
  of_any _ _ _ (TextsIn.nil w)

theorem parts_walk (w : World) (a b : ByteArray) :
    Calls Try.prog 5 #[.string a, .string b] w fun r w' => r = .returned (.bool true) ∧ Below w.heap.size w w' := by
  have K := fun w' => Lib.hid (alive_any w')
  by_cases ha : a.size ≤ 800
  · have k1 : decide ((800 : Int) < (a.size : Int)) = false := decide_eq_false (by omega)
    by_cases hb : b.size ≤ 800
    · have k2 : decide ((800 : Int) < (b.size : Int)) = false := decide_eq_false (by omega)
      have H1 := fun w' n (hn : w'.heap.size = n) => Lib.hid (of1 w' n hn (a ++ b) (by rw [size_app]; omega))
      rw [text_app] at H1
      have H2 := fun w' n (hn : w'.heap.size = n) => Lib.hid (of2 w' n hn a b (by omega) (by omega))
      have H4 := fun w' n (hn : w'.heap.size = n) => Lib.hid (of4 w' n hn a b (by omega) (by omega))
      have H5 := fun w' => Lib.hid (of0 w')
      have H6 := fun w' => Lib.hid (rSum_any w' ⟨#[]⟩ (by decide))
      by_cases hab : a = b
      · subst hab
        have hc := same_true (rfl : a = a)
        generalize crc (a.data.toList ++ a.data.toList) = x at H1 H2 H4
        generalize crc [] = y at H5 H6
        go_enter Try.func5, Try.ntmps5
        go_wp2_with (first
          | (go_at_call 8; refine (K _).out.mono ?_; rintro e w1 ⟨rfl, hb1⟩)
          | (go_at_call 12; with_reducible refine (H1 _ _ (by simp)).out.mono ?_; rintro e w2 ⟨rfl, rfl⟩)
          | (go_at_call 12; with_reducible refine (H2 _ _ (by simp)).out.mono ?_; rintro e w2 ⟨rfl, rfl⟩)
          | (go_at_call 12; with_reducible refine (H4 _ _ (by simp)).out.mono ?_; rintro e w2 ⟨rfl, rfl⟩)
          | (go_at_call 12; with_reducible refine (H5 _).out.mono ?_; rintro e w2 ⟨rfl, rfl⟩)
          | (go_at_call 13; refine (H6 _).out.mono ?_; rintro e w2 ⟨rfl, rfl⟩))
        go_ret
        exact ⟨rfl, grow (grow (grow (grow (grow (grow hb1 _) _) _) _) _) _⟩
      · have hc := same_false hab
        generalize crc (a.data.toList ++ b.data.toList) = x at H1 H2 H4
        generalize crc [] = y at H5 H6
        clear hab
        go_enter Try.func5, Try.ntmps5
        go_wp2_with (first
          | (go_at_call 8; refine (K _).out.mono ?_; rintro e w1 ⟨rfl, hb1⟩)
          | (go_at_call 12; with_reducible refine (H1 _ _ (by simp)).out.mono ?_; rintro e w2 ⟨rfl, rfl⟩)
          | (go_at_call 12; with_reducible refine (H2 _ _ (by simp)).out.mono ?_; rintro e w2 ⟨rfl, rfl⟩)
          | (go_at_call 12; with_reducible refine (H4 _ _ (by simp)).out.mono ?_; rintro e w2 ⟨rfl, rfl⟩)
          | (go_at_call 12; with_reducible refine (H5 _).out.mono ?_; rintro e w2 ⟨rfl, rfl⟩)
          | (go_at_call 13; refine (H6 _).out.mono ?_; rintro e w2 ⟨rfl, rfl⟩))
        go_ret
        exact ⟨rfl, grow (grow (grow (grow hb1 _) _) _) _⟩
    · have k2 : decide ((800 : Int) < (b.size : Int)) = true := decide_eq_true (by omega)
      go_enter Try.func5, Try.ntmps5
      go_wp2_with (go_at_call 8; refine (K _).out.mono ?_; rintro e w1 ⟨rfl, hb⟩)
      go_ret
      exact ⟨rfl, hb⟩
  · have k1 : decide ((800 : Int) < (a.size : Int)) = true := decide_eq_true (by omega)
    go_enter Try.func5, Try.ntmps5
    go_wp2_with (go_at_call 8; refine (K _).out.mono ?_; rintro e w1 ⟨rfl, hb⟩)
    go_ret
    exact ⟨rfl, hb⟩

end Go.Proofs.Ytgkcjidjnoehbaa.P2
