/-
  Package pack's Number, by a contract.
-/
import Derived.Test.YtadcmjcafimkeaaDoorNumA
namespace Go.Proofs.YtadcmjcafimkeaaDoor.P1
open Go Go.RowKit Go.Lib

/-- the number of digits -/
def vals (l : List UInt8) : Nat := l.foldl (fun v c => v * 10 + (c.toNat - 48)) 0
theorem vals_snoc (l : List UInt8) (c : UInt8) : vals (l ++ [c]) = vals l * 10 + (c.toNat - 48) := by simp [vals]
theorem vals_from (l : List UInt8) : ∀ a : Nat, (∀ c ∈ l, Digit c) → l.foldl (fun v c => v * 10 + (c.toNat - 48)) a < (a + 1) * 10 ^ l.length := by
  induction l with
  | nil => intro a _; simp
  | cons c r ih =>
    intro a h
    have h1 := ih (a * 10 + (c.toNat - 48)) fun x hx => h x (by simp [hx])
    have h2 := (h c (by simp)).2
    simp only [List.foldl_cons, List.length_cons]
    refine Nat.lt_of_lt_of_le h1 ?_
    rw [Nat.pow_succ, Nat.mul_comm (10 ^ r.length) 10, ← Nat.mul_assoc]
    exact Nat.mul_le_mul_right _ (by omega)
theorem vals_lt (l : List UInt8) (h : ∀ c ∈ l, Digit c) : vals l < 10 ^ l.length := by
  have := vals_from l 0 h
  simpa [vals] using this
theorem vals_take (s : ByteArray) (k : Nat) (h : k < s.size) : vals (s.data.toList.take (k + 1)) = vals (s.data.toList.take k) * 10 + (s[k].toNat - 48) := by
  rw [take_snoc s k h, vals_snoc]
theorem vals_take_lt (s : ByteArray) (hd : ∀ c ∈ s.data.toList, Digit c) (k : Nat) (h18 : k ≤ 18) (h : k < s.size) (h2 : s.size ≤ 18) : vals (s.data.toList.take k) ≤ 99999999999999999 := by
  have h1 := vals_lt (s.data.toList.take k) fun c hc => hd c (List.mem_of_mem_take hc)
  have h3 : 10 ^ (s.data.toList.take k).length ≤ 10 ^ 17 := Nat.pow_le_pow_right (by omega) (by rw [List.length_take]; omega)
  omega
theorem vals_lt18 (s : ByteArray) (hd : ∀ c ∈ s.data.toList, Digit c) (h2 : s.size ≤ 18) : vals s.data.toList ≤ 999999999999999999 := by
  have h1 := vals_lt s.data.toList hd
  have h3 : 10 ^ s.data.toList.length ≤ 10 ^ 18 := Nat.pow_le_pow_right (by omega) (by simpa using h2)
  omega

/-- is the text a number's digits behind the sign? -/
def NumOk (b : Bool) (r : ByteArray) : Prop := Plain r ∧ ¬ (b = true ∧ r.data.toList = [48])
def signed (b : Bool) (n : Nat) : Int := if b then -(n : Int) else n

theorem plain_yes (w : World) (s : ByteArray) (h : Plain s) :
    Calls Tryd.prog 50 #[.string s] w fun r w' => r = .returned (.bool true) ∧ w = w' := by
  obtain ⟨h1, h2, h3, h4⟩ := h
  have H := plain_rest w s h1 h2 (fun ⟨a, e⟩ => h3 ⟨a, by rw [head_at s (by omega)]; exact congrArg some e⟩)
  rwa [decide_eq_true h4] at H
theorem plain_no (w : World) (s : ByteArray) (h : ¬ Plain s) :
    Calls Tryd.prog 50 #[.string s] w fun r w' => r = .returned (.bool false) ∧ w = w' := by
  by_cases h1 : 1 ≤ s.size ∧ s.size ≤ 18
  · by_cases h3 : 1 < s.size ∧ s.data.toList.head? = some 48
    · refine plain_zero w s h3.1 h1.2 ?_
      have e := h3.2
      rw [head_at s (by omega)] at e
      exact Option.some.inj e
    · have H := plain_rest w s h1.1 h1.2 (fun ⟨a, e⟩ => h3 ⟨a, by rw [head_at s (by omega)]; exact congrArg some e⟩)
      rwa [decide_eq_false (fun h4 => h ⟨h1.1, h1.2, h3, h4⟩)] at H
  · exact plain_short w s h1

/-- CutPrefix's answer, as Number asks for it -/
def Cut (s r : ByteArray) (b : Bool) : Prop := r.data.toList = Lib.trimPrefix s.data.toList [45] ∧ b = Lib.hasPrefix s.data.toList [45]
theorem cut_call (w : World) (s r : ByteArray) (b : Bool) (h : Cut s r b) :
    Calls Tryd.prog 49 #[.string s, .string ⟨#[45]⟩] w fun e w' => e = .returned (.tuple #[.string r, .bool b]) ∧ w = w' := by
  have H := Tryd.strings_CutPrefix s ⟨#[45]⟩ w
  have e : r = ⟨(Lib.trimPrefix s.data.toList [45]).toArray⟩ := str_of h.1
  rw [e, h.2]
  exact H.mono fun _ _ ⟨a, c⟩ => ⟨a, c.symm⟩

theorem number_not_plain (w : World) (s r : ByteArray) (b : Bool) (hc : Cut s r b) (h : ¬ Plain r) :
    Calls Tryd.prog 38 #[.string s] w fun e w' => e = .returned (.tuple #[.int .i64 0, .int .i64 1]) ∧ w = w' := by
  have H1 := Lib.hid (cut_call w s r b hc)
  have H2 := Lib.hid (plain_no w r h)
  clear hc h
  go_enter Tryd.func38, Tryd.ntmps38
  go_wp2_with (first | (go_at_call 49; refine H1.out.mono ?_; rintro e w1 ⟨rfl, rfl⟩) | (go_at_call 50; refine H2.out.mono ?_; rintro e w2 ⟨rfl, rfl⟩))
  go_ret2
  exact ⟨rfl, rfl⟩
theorem number_zero (w : World) (s r : ByteArray) (hc : Cut s r true) (h : Plain r) (h0 : r.data.toList = [48]) :
    Calls Tryd.prog 38 #[.string s] w fun e w' => e = .returned (.tuple #[.int .i64 0, .int .i64 1]) ∧ w = w' := by
  have H1 := Lib.hid (cut_call w s r true hc)
  have H2 := Lib.hid (plain_yes w r h)
  have k : (r.toList == [48]) = true := by rw [ByteArray.toList_eq, h0]; rfl
  clear hc h h0
  go_enter Tryd.func38, Tryd.ntmps38
  go_wp2_with (first | (go_at_call 49; refine H1.out.mono ?_; rintro e w1 ⟨rfl, rfl⟩) | (go_at_call 50; refine H2.out.mono ?_; rintro e w2 ⟨rfl, rfl⟩))
  go_ret2
  exact ⟨rfl, rfl⟩

theorem number_plus (w : World) (s r : ByteArray) (hc : Cut s r false) (h : Plain r) :
    Calls Tryd.prog 38 #[.string s] w fun e w' => e = .returned (.tuple #[.int .i64 (vals r.data.toList : Int), .int .i64 0]) ∧ w = w' := by
  have H1 := Lib.hid (cut_call w s r false hc)
  have H2 := Lib.hid (plain_yes w r h)
  have hd := Lib.hid h.2.2.2
  have h18 := h.2.1
  have hfin := vals_lt18 r h.2.2.2 h.2.1
  clear hc h
  go_enter Tryd.func38, Tryd.ntmps38
  go_wp2_with (first | (go_at_call 49; refine H1.out.mono ?_; rintro e w1 ⟨rfl, rfl⟩) | (go_at_call 50; refine H2.out.mono ?_; rintro e w2 ⟨rfl, rfl⟩))
  go_loop [6, 7, 25] (fun v _ i => ∃ k x : Nat, k ≤ r.size ∧ i = .int .i64 k ∧ v = .int .i64 x ∧ Hid (x = vals (r.data.toList.take k))) (fun _ _ i => r.size - (RowKit.intOf i).toNat)
  case atStart => exact ⟨0, 0, Nat.zero_le _, rfl, rfl, rfl⟩
  case round =>
    obtain ⟨k, x, hk, rfl, rfl, hx⟩ := hrel
    by_cases hlt : k < r.size
    · have hb : x ≤ 99999999999999999 := by rw [hx.out]; exact vals_take_lt r hd.out k (by omega) hlt h18
      have hdk := hd.out _ (mem_at r k hlt)
      have hlo : 48 ≤ r[k].toNat := hdk.1
      have hhi : r[k].toNat ≤ 57 := hdk.2
      have hnx : Hid (x * 10 + (r[k].toNat - 48) = vals (r.data.toList.take (k + 1))) := by
        have e := vals_take r k hlt
        rw [← hx.out] at e
        exact e.symm
      clear hdk
      go_wp2
      go_round
      case rel => exact ⟨k + 1, x * 10 + (r[k].toNat - 48), by omega, by go_num, by go_num, hnx⟩
      case measure => simp [RowKit.intOf]; omega
    · have hxe : Hid (x = vals r.data.toList) := by
        have e := hx.out
        rw [List.take_of_length_le (by simp; omega)] at e
        exact e
      have hxb : x ≤ 999999999999999999 := by rw [hxe.out]; exact hfin
      clear hfin
      go_wp2
      go_ret2
      exact ⟨by rw [hxe.out]; rfl, rfl⟩

theorem number_minus (w : World) (s r : ByteArray) (hc : Cut s r true) (h : Plain r) (h0 : r.data.toList ≠ [48]) :
    Calls Tryd.prog 38 #[.string s] w fun e w' => e = .returned (.tuple #[.int .i64 (-(vals r.data.toList : Int) : Int), .int .i64 0]) ∧ w = w' := by
  have H1 := Lib.hid (cut_call w s r true hc)
  have H2 := Lib.hid (plain_yes w r h)
  have k0 : (r.toList == [48]) = false := by rw [ByteArray.toList_eq]; simpa using h0
  clear h0
  have hd := Lib.hid h.2.2.2
  have h18 := h.2.1
  have hfin := vals_lt18 r h.2.2.2 h.2.1
  clear hc h
  go_enter Tryd.func38, Tryd.ntmps38
  go_wp2_with (first | (go_at_call 49; refine H1.out.mono ?_; rintro e w1 ⟨rfl, rfl⟩) | (go_at_call 50; refine H2.out.mono ?_; rintro e w2 ⟨rfl, rfl⟩))
  go_loop [6, 7, 25] (fun v _ i => ∃ k x : Nat, k ≤ r.size ∧ i = .int .i64 k ∧ v = .int .i64 x ∧ Hid (x = vals (r.data.toList.take k))) (fun _ _ i => r.size - (RowKit.intOf i).toNat)
  case atStart => exact ⟨0, 0, Nat.zero_le _, rfl, rfl, rfl⟩
  case round =>
    obtain ⟨k, x, hk, rfl, rfl, hx⟩ := hrel
    by_cases hlt : k < r.size
    · have hb : x ≤ 99999999999999999 := by rw [hx.out]; exact vals_take_lt r hd.out k (by omega) hlt h18
      have hdk := hd.out _ (mem_at r k hlt)
      have hlo : 48 ≤ r[k].toNat := hdk.1
      have hhi : r[k].toNat ≤ 57 := hdk.2
      have hnx : Hid (x * 10 + (r[k].toNat - 48) = vals (r.data.toList.take (k + 1))) := by
        have e := vals_take r k hlt
        rw [← hx.out] at e
        exact e.symm
      clear hdk
      go_wp2
      go_round
      case rel => exact ⟨k + 1, x * 10 + (r[k].toNat - 48), by omega, by go_num, by go_num, hnx⟩
      case measure => simp [RowKit.intOf]; omega
    · have hxe : Hid (x = vals r.data.toList) := by
        have e := hx.out
        rw [List.take_of_length_le (by simp; omega)] at e
        exact e
      have hxb : x ≤ 999999999999999999 := by rw [hxe.out]; exact hfin
      clear hfin
      go_wp2
      go_ret2
      exact ⟨by rw [hxe.out]; rfl, rfl⟩

theorem numOk_cases {b : Bool} {r : ByteArray} (h : ¬ NumOk b r) : ¬ Plain r ∨ (Plain r ∧ b = true ∧ r.data.toList = [48]) := by
  by_cases h1 : Plain r
  · by_cases h2 : b = true ∧ r.data.toList = [48]
    · exact .inr ⟨h1, h2⟩
    · exact absurd ⟨h1, h2⟩ h
  · exact .inl h1
theorem number_bad_text (w : World) (s r : ByteArray) (b : Bool) (hc : Cut s r b) (h : ¬ NumOk b r) :
    Calls Tryd.prog 38 #[.string s] w fun e w' => e = .returned (.tuple #[.int .i64 0, .int .i64 1]) ∧ w = w' := by
  rcases numOk_cases h with h | ⟨h1, rfl, h2⟩
  · exact number_not_plain w s r b hc h
  · exact number_zero w s r hc h1 h2
theorem number_good (w : World) (s r : ByteArray) (b : Bool) (hc : Cut s r b) (h : NumOk b r) :
    Calls Tryd.prog 38 #[.string s] w fun e w' => e = .returned (.tuple #[.int .i64 (signed b (vals r.data.toList)), .int .i64 0]) ∧ w = w' := by
  cases b
  · exact number_plus w s r hc h.1
  · exact number_minus w s r hc h.1 (fun e => h.2 ⟨rfl, e⟩)

end Go.Proofs.YtadcmjcafimkeaaDoor.P1
