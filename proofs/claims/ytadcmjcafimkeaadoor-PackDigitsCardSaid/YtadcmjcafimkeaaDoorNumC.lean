/-
  The reference's Number, by a contract: the same as package pack's.
-/
import Derived.Test.YtadcmjcafimkeaaDoorNumB
namespace Go.Proofs.YtadcmjcafimkeaaDoor.P1
open Go Go.RowKit Go.Lib

theorem cut_true {s r : ByteArray} (h : Cut s r true) : ∃ h0 : 0 < s.size, s[0] = 45 ∧ s.extract 1 s.size = r ∧ r.size < s.size := by
  obtain ⟨h1, h2⟩ := h
  have h3 : ∃ l, s.data.toList = 45 :: l := by
    cases e : s.data.toList with
    | nil => rw [e] at h2; simp [Lib.hasPrefix, List.isPrefixOf] at h2
    | cons a l => rw [e] at h2; simp [Lib.hasPrefix, List.isPrefixOf] at h2; exact ⟨l, by rw [h2]⟩
  obtain ⟨l, hl⟩ := h3
  have hz : s.data.toList.length = s.size := by simp
  have h0 : 0 < s.size := by rw [hl] at hz; simp at hz; omega
  have hr : r.data.toList = l := by
    rw [h1, Lib.trimPrefix, if_pos h2.symm, hl]; rfl
  refine ⟨h0, ?_, ?_, ?_⟩
  · have e := head_at s h0
    rw [hl] at e
    exact (Option.some.inj e).symm
  · apply ByteArray.ext
    apply Array.toList_inj.1
    rw [hr, Lib.extract_data, hl, List.drop_one, List.tail_cons]
    exact List.take_of_length_le (by rw [hl] at hz; simp at hz; omega)
  · have : r.size = l.length := by rw [← hr]; simp
    rw [hl] at hz; simp at hz; omega
theorem cut_false {s r : ByteArray} (h : Cut s r false) : r = s ∧ ∀ h0 : 0 < s.size, s[0] ≠ 45 := by
  obtain ⟨h1, h2⟩ := h
  rw [Lib.trimPrefix, if_neg (by rw [← h2]; simp)] at h1
  refine ⟨by apply ByteArray.ext; apply Array.toList_inj.1; exact h1, fun h0 e => ?_⟩
  have e1 := head_at s h0
  rw [e] at e1
  cases e2 : s.data.toList with
  | nil => rw [e2] at e1; cases e1
  | cons a l => rw [e2] at e1 h2; simp at e1; subst e1; simp [Lib.hasPrefix, List.isPrefixOf] at h2
theorem byte_ne {c : UInt8} {n : Nat} (h : c ≠ UInt8.ofNat n) (hn : n < 256) : (((c.toNat : Nat) : Int) == (n : Int)) = false := by
  rw [beq_eq_false_iff_ne]
  intro e
  apply h
  apply UInt8.toNat_inj.1
  rw [UInt8.toNat_ofNat']
  omega

/-- a number's answer: the number, or the error -/
def numAns (d : Bool) (n : Int) : Value := match d with | true => .tuple #[.int .i64 n, .int .i64 0] | false => .tuple #[.int .i64 0, .int .i64 1]

theorem rnum_empty (w : World) (s : ByteArray) (h : s.size = 0) :
    Calls Tryd.prog 39 #[.string s] w fun e w' => e = .returned (.tuple #[.int .i64 0, .int .i64 1]) ∧ w = w' := by
  have k1 : decide ((0 : Int) < (s.size : Int)) = false := decide_eq_false (by omega)
  have k1' : decide (0 < s.size) = false := decide_eq_false (by omega)
  have k2 : decide ((s.size : Int) < 1) = true := decide_eq_true (by omega)
  have k2' : decide (s.size < 1) = true := decide_eq_true (by omega)
  clear h
  go_enter Tryd.func39, Tryd.ntmps39
  go_wp2
  go_ret2
  exact ⟨rfl, rfl⟩

theorem rnum_minus_size (w : World) (s r : ByteArray) (hs : 0 < s.size) (h45 : s[0] = 45) (hx : s.extract 1 s.size = r) (h : ¬ (1 ≤ r.size ∧ r.size ≤ 18)) :
    Calls Tryd.prog 39 #[.string s] w fun e w' => e = .returned (.tuple #[.int .i64 0, .int .i64 1]) ∧ w = w' := by
  have k1 : (((s[0].toNat : Nat) : Int) == 45) = true := by rw [h45]; rfl
  clear h45
  by_cases h1 : 1 ≤ r.size
  · have k2 : decide ((r.size : Int) < 1) = false := decide_eq_false (by omega)
    have k3 : decide ((18 : Int) < (r.size : Int)) = true := decide_eq_true (by omega)
    clear h
    go_enter Tryd.func39, Tryd.ntmps39
    go_wp2
    go_ret2
    exact ⟨rfl, rfl⟩
  · have k2 : decide ((r.size : Int) < 1) = true := decide_eq_true (by omega)
    clear h
    go_enter Tryd.func39, Tryd.ntmps39
    go_wp2
    go_ret2
    exact ⟨rfl, rfl⟩
theorem rnum_minus_zero (w : World) (s r : ByteArray) (hs : 0 < s.size) (h45 : s[0] = 45) (hx : s.extract 1 s.size = r) (h1 : 0 < r.size) (h2 : r.size ≤ 18) (h48 : r[0] = 48) (hne : s.data.toList ≠ [48]) :
    Calls Tryd.prog 39 #[.string s] w fun e w' => e = .returned (.tuple #[.int .i64 0, .int .i64 1]) ∧ w = w' := by
  have k1 : (((s[0].toNat : Nat) : Int) == 45) = true := by rw [h45]; rfl
  clear h45
  have k2 : decide ((r.size : Int) < 1) = false := decide_eq_false (by omega)
  have k3 : decide ((18 : Int) < (r.size : Int)) = false := decide_eq_false (by omega)
  have k4 : (((r[0].toNat : Nat) : Int) == 48) = true := by rw [h48]; rfl
  have k5 : (s.toList == [48]) = false := by rw [ByteArray.toList_eq]; simpa using hne
  have k6 : (s.toList != [48]) = true := by rw [ByteArray.toList_eq]; simpa using hne
  clear h48 hne
  go_enter Tryd.func39, Tryd.ntmps39
  go_wp2
  go_ret2
  exact ⟨rfl, rfl⟩

theorem rnum_plus_size (w : World) (s : ByteArray) (hs : 0 < s.size) (h45 : s[0] ≠ 45) (h : ¬ (1 ≤ s.size ∧ s.size ≤ 18)) :
    Calls Tryd.prog 39 #[.string s] w fun e w' => e = .returned (.tuple #[.int .i64 0, .int .i64 1]) ∧ w = w' := by
  have k1 : (((s[0].toNat : Nat) : Int) == 45) = false := byte_ne (n := 45) h45 (by omega)
  clear h45
  by_cases h1 : 1 ≤ s.size
  · have k2 : decide ((s.size : Int) < 1) = false := decide_eq_false (by omega)
    have k3 : decide ((18 : Int) < (s.size : Int)) = true := decide_eq_true (by omega)
    clear h
    go_enter Tryd.func39, Tryd.ntmps39
    go_wp2
    go_ret2
    exact ⟨rfl, rfl⟩
  · have k2 : decide ((s.size : Int) < 1) = true := decide_eq_true (by omega)
    clear h
    go_enter Tryd.func39, Tryd.ntmps39
    go_wp2
    go_ret2
    exact ⟨rfl, rfl⟩
theorem rnum_plus_zero (w : World) (s : ByteArray) (hs : 0 < s.size) (h45 : s[0] ≠ 45) (h1 : 0 < s.size) (h2 : s.size ≤ 18) (h48 : s[0] = 48) (hne : s.data.toList ≠ [48]) :
    Calls Tryd.prog 39 #[.string s] w fun e w' => e = .returned (.tuple #[.int .i64 0, .int .i64 1]) ∧ w = w' := by
  have k1 : (((s[0].toNat : Nat) : Int) == 45) = false := byte_ne (n := 45) h45 (by omega)
  clear h45
  have k2 : decide ((s.size : Int) < 1) = false := decide_eq_false (by omega)
  have k3 : decide ((18 : Int) < (s.size : Int)) = false := decide_eq_false (by omega)
  have k4 : (((s[0].toNat : Nat) : Int) == 48) = true := by rw [h48]; rfl
  have k5 : (s.toList == [48]) = false := by rw [ByteArray.toList_eq]; simpa using hne
  have k6 : (s.toList != [48]) = true := by rw [ByteArray.toList_eq]; simpa using hne
  clear h48 hne
  go_enter Tryd.func39, Tryd.ntmps39
  go_wp2
  go_ret2
  exact ⟨rfl, rfl⟩

theorem rnum_minus_walk_digit (w : World) (s r : ByteArray) (hs : 0 < s.size) (h45 : s[0] = 45) (hx : s.extract 1 s.size = r) (hlt : r.size < s.size) (h1 : 0 < r.size) (h2 : r.size ≤ 18) (h48 : r[0] ≠ 48) (d : Bool) (hd : d = decide (∀ c ∈ r.data.toList, Digit c)) :
    Calls Tryd.prog 39 #[.string s] w fun e w' => e = .returned (numAns d (-(vals r.data.toList : Int) : Int)) ∧ w = w' := by
  have k1 : (((s[0].toNat : Nat) : Int) == 45) = true := by rw [h45]; rfl
  clear h45
  have k2 : decide ((r.size : Int) < 1) = false := decide_eq_false (by omega)
  have k3 : decide ((18 : Int) < (r.size : Int)) = false := decide_eq_false (by omega)
  have k4 : (((r[0].toNat : Nat) : Int) == 48) = false := byte_ne (n := 48) h48 (by omega)
  clear h48
  have HD := Lib.hid hd
  have klt : decide ((r.size : Int) < (s.size : Int)) = true := decide_eq_true (by omega)
  have klt' : decide (r.size < s.size) = true := decide_eq_true (by omega)
  clear hd
  go_enter Tryd.func39, Tryd.ntmps39
  go_wp2
  go_loop [5, 6] (fun v i => ∃ k x : Nat, k ≤ r.size ∧ i = .int .i64 k ∧ v = .int .i64 x ∧ Hid (x = vals (r.data.toList.take k)) ∧ Hid (∀ j (hj : j < r.size), j < k → Digit r[j]) ∧ x ≤ 999999999999999999 ∧ Hid (x < 10 ^ k)) (fun _ i => r.size - (RowKit.intOf i).toNat)
  case atStart => exact ⟨0, 0, Nat.zero_le _, rfl, rfl, rfl, fun j _ h => absurd h (Nat.not_lt_zero _), by omega, (by decide : 0 < 10 ^ 0)⟩
  case round =>
    obtain ⟨k, x, hk, rfl, rfl, hxe, hrd, hxb, hxp⟩ := hrel
    by_cases hlk : k < r.size
    · by_cases hlo : r[k].toNat < 48
      · have hdf := Lib.hid (HD.out.trans (decide_eq_false (fun h => by have := (h _ (mem_at r k hlk)).1; omega)))
        go_wp2
        go_ret2
        exact ⟨by rw [hdf.out]; rfl, rfl⟩
      · by_cases hhi : 57 < r[k].toNat
        · have hdf := Lib.hid (HD.out.trans (decide_eq_false (fun h => by have := (h _ (mem_at r k hlk)).2; omega)))
          have hlo' : 48 ≤ r[k].toNat := by omega
          clear hlo
          go_wp2
          go_ret2
          exact ⟨by rw [hdf.out]; rfl, rfl⟩
        · have hnx : Hid (∀ j (hj : j < r.size), j < k + 1 → Digit r[j]) := fun j hj h => by
            by_cases e : j = k
            · subst e; exact ⟨by omega, by omega⟩
            · exact hrd.out j hj (by omega)
          have hve : Hid (x * 10 + (r[k].toNat - 48) = vals (r.data.toList.take (k + 1))) := by
            have e := vals_take r k hlk
            rw [← hxe.out] at e
            exact e.symm
          have hp : x ≤ 99999999999999999 := by
            have h3 : 10 ^ k ≤ 10 ^ 17 := Nat.pow_le_pow_right (by omega) (by omega)
            have := hxp.out
            omega
          have hp2 : Hid (x * 10 + (r[k].toNat - 48) < 10 ^ (k + 1)) := by
            have := hxp.out
            show _ < _
            rw [Nat.pow_succ]
            omega
          have hlo' : 48 ≤ r[k].toNat := by omega
          have hhi' : r[k].toNat ≤ 57 := by omega
          clear hlo hhi
          go_wp2
          go_round
          case rel => exact ⟨k + 1, x * 10 + (r[k].toNat - 48), by omega, by go_num, by go_num, hve, hnx, by omega, hp2⟩
          case measure => simp [RowKit.intOf]; omega
    · have hdt := Lib.hid (HD.out.trans (decide_eq_true (all_at r Digit fun j hj => hrd.out j hj (by omega))))
      have hve : Hid (x = vals r.data.toList) := by
        have e := hxe.out
        rw [List.take_of_length_le (by simp; omega)] at e
        exact e
      go_wp2
      go_ret2
      exact ⟨by rw [hdt.out, ← hve.out]; rfl, rfl⟩

theorem rnum_plus_walk_digit (w : World) (s : ByteArray) (h1 : 0 < s.size) (h45 : s[0] ≠ 45) (h2 : s.size ≤ 18) (h48 : s[0] ≠ 48) (d : Bool) (hd : d = decide (∀ c ∈ s.data.toList, Digit c)) :
    Calls Tryd.prog 39 #[.string s] w fun e w' => e = .returned (numAns d (vals s.data.toList : Int)) ∧ w = w' := by
  have k1 : (((s[0].toNat : Nat) : Int) == 45) = false := byte_ne (n := 45) h45 (by omega)
  clear h45
  have k2 : decide ((s.size : Int) < 1) = false := decide_eq_false (by omega)
  have k3 : decide ((18 : Int) < (s.size : Int)) = false := decide_eq_false (by omega)
  have k4 : (((s[0].toNat : Nat) : Int) == 48) = false := byte_ne (n := 48) h48 (by omega)
  clear h48
  have HD := Lib.hid hd
  have klt : decide ((s.size : Int) < (s.size : Int)) = false := decide_eq_false (by omega)
  have klt' : decide (s.size < s.size) = false := decide_eq_false (by omega)
  clear hd
  go_enter Tryd.func39, Tryd.ntmps39
  go_wp2
  go_loop [5, 6] (fun v i => ∃ k x : Nat, k ≤ s.size ∧ i = .int .i64 k ∧ v = .int .i64 x ∧ Hid (x = vals (s.data.toList.take k)) ∧ Hid (∀ j (hj : j < s.size), j < k → Digit s[j]) ∧ x ≤ 999999999999999999 ∧ Hid (x < 10 ^ k)) (fun _ i => s.size - (RowKit.intOf i).toNat)
  case atStart => exact ⟨0, 0, Nat.zero_le _, rfl, rfl, rfl, fun j _ h => absurd h (Nat.not_lt_zero _), by omega, (by decide : 0 < 10 ^ 0)⟩
  case round =>
    obtain ⟨k, x, hk, rfl, rfl, hxe, hrd, hxb, hxp⟩ := hrel
    by_cases hlk : k < s.size
    · by_cases hlo : s[k].toNat < 48
      · have hdf := Lib.hid (HD.out.trans (decide_eq_false (fun h => by have := (h _ (mem_at s k hlk)).1; omega)))
        go_wp2
        go_ret2
        exact ⟨by rw [hdf.out]; rfl, rfl⟩
      · by_cases hhi : 57 < s[k].toNat
        · have hdf := Lib.hid (HD.out.trans (decide_eq_false (fun h => by have := (h _ (mem_at s k hlk)).2; omega)))
          have hlo' : 48 ≤ s[k].toNat := by omega
          clear hlo
          go_wp2
          go_ret2
          exact ⟨by rw [hdf.out]; rfl, rfl⟩
        · have hnx : Hid (∀ j (hj : j < s.size), j < k + 1 → Digit s[j]) := fun j hj h => by
            by_cases e : j = k
            · subst e; exact ⟨by omega, by omega⟩
            · exact hrd.out j hj (by omega)
          have hve : Hid (x * 10 + (s[k].toNat - 48) = vals (s.data.toList.take (k + 1))) := by
            have e := vals_take s k hlk
            rw [← hxe.out] at e
            exact e.symm
          have hp : x ≤ 99999999999999999 := by
            have h3 : 10 ^ k ≤ 10 ^ 17 := Nat.pow_le_pow_right (by omega) (by omega)
            have := hxp.out
            omega
          have hp2 : Hid (x * 10 + (s[k].toNat - 48) < 10 ^ (k + 1)) := by
            have := hxp.out
            show _ < _
            rw [Nat.pow_succ]
            omega
          have hlo' : 48 ≤ s[k].toNat := by omega
          have hhi' : s[k].toNat ≤ 57 := by omega
          clear hlo hhi
          go_wp2
          go_round
          case rel => exact ⟨k + 1, x * 10 + (s[k].toNat - 48), by omega, by go_num, by go_num, hve, hnx, by omega, hp2⟩
          case measure => simp [RowKit.intOf]; omega
    · have hdt := Lib.hid (HD.out.trans (decide_eq_true (all_at s Digit fun j hj => hrd.out j hj (by omega))))
      have hve : Hid (x = vals s.data.toList) := by
        have e := hxe.out
        rw [List.take_of_length_le (by simp; omega)] at e
        exact e
      go_wp2
      go_ret2
      exact ⟨by rw [hdt.out, ← hve.out]; rfl, rfl⟩

theorem rnum_plus_walk_nought (w : World) (s : ByteArray) (h1 : 0 < s.size) (h45 : s[0] ≠ 45) (h2 : s.size ≤ 18) (h48 : s.data.toList = [48]) (d : Bool) (hd : d = decide (∀ c ∈ s.data.toList, Digit c)) :
    Calls Tryd.prog 39 #[.string s] w fun e w' => e = .returned (numAns d (vals s.data.toList : Int)) ∧ w = w' := by
  have k1 : (((s[0].toNat : Nat) : Int) == 45) = false := byte_ne (n := 45) h45 (by omega)
  clear h45
  have k2 : decide ((s.size : Int) < 1) = false := decide_eq_false (by omega)
  have k3 : decide ((18 : Int) < (s.size : Int)) = false := decide_eq_false (by omega)
  have k6 : (((s[0].toNat : Nat) : Int) == 48) = true := by
    have e := head_at s h1
    rw [h48] at e
    rw [← Option.some.inj e]; rfl
  have k4 : (s.toList == [48]) = true := by rw [ByteArray.toList_eq, h48]; rfl
  have k5 : (s.toList != [48]) = false := by rw [ByteArray.toList_eq, h48]; rfl
  clear h48
  have HD := Lib.hid hd
  have klt : decide ((s.size : Int) < (s.size : Int)) = false := decide_eq_false (by omega)
  have klt' : decide (s.size < s.size) = false := decide_eq_false (by omega)
  clear hd
  go_enter Tryd.func39, Tryd.ntmps39
  go_wp2
  go_loop [5, 6] (fun v i => ∃ k x : Nat, k ≤ s.size ∧ i = .int .i64 k ∧ v = .int .i64 x ∧ Hid (x = vals (s.data.toList.take k)) ∧ Hid (∀ j (hj : j < s.size), j < k → Digit s[j]) ∧ x ≤ 999999999999999999 ∧ Hid (x < 10 ^ k)) (fun _ i => s.size - (RowKit.intOf i).toNat)
  case atStart => exact ⟨0, 0, Nat.zero_le _, rfl, rfl, rfl, fun j _ h => absurd h (Nat.not_lt_zero _), by omega, (by decide : 0 < 10 ^ 0)⟩
  case round =>
    obtain ⟨k, x, hk, rfl, rfl, hxe, hrd, hxb, hxp⟩ := hrel
    by_cases hlk : k < s.size
    · by_cases hlo : s[k].toNat < 48
      · have hdf := Lib.hid (HD.out.trans (decide_eq_false (fun h => by have := (h _ (mem_at s k hlk)).1; omega)))
        go_wp2
        go_ret2
        exact ⟨by rw [hdf.out]; rfl, rfl⟩
      · by_cases hhi : 57 < s[k].toNat
        · have hdf := Lib.hid (HD.out.trans (decide_eq_false (fun h => by have := (h _ (mem_at s k hlk)).2; omega)))
          have hlo' : 48 ≤ s[k].toNat := by omega
          clear hlo
          go_wp2
          go_ret2
          exact ⟨by rw [hdf.out]; rfl, rfl⟩
        · have hnx : Hid (∀ j (hj : j < s.size), j < k + 1 → Digit s[j]) := fun j hj h => by
            by_cases e : j = k
            · subst e; exact ⟨by omega, by omega⟩
            · exact hrd.out j hj (by omega)
          have hve : Hid (x * 10 + (s[k].toNat - 48) = vals (s.data.toList.take (k + 1))) := by
            have e := vals_take s k hlk
            rw [← hxe.out] at e
            exact e.symm
          have hp : x ≤ 99999999999999999 := by
            have h3 : 10 ^ k ≤ 10 ^ 17 := Nat.pow_le_pow_right (by omega) (by omega)
            have := hxp.out
            omega
          have hp2 : Hid (x * 10 + (s[k].toNat - 48) < 10 ^ (k + 1)) := by
            have := hxp.out
            show _ < _
            rw [Nat.pow_succ]
            omega
          have hlo' : 48 ≤ s[k].toNat := by omega
          have hhi' : s[k].toNat ≤ 57 := by omega
          clear hlo hhi
          go_wp2
          go_round
          case rel => exact ⟨k + 1, x * 10 + (s[k].toNat - 48), by omega, by go_num, by go_num, hve, hnx, by omega, hp2⟩
          case measure => simp [RowKit.intOf]; omega
    · have hdt := Lib.hid (HD.out.trans (decide_eq_true (all_at s Digit fun j hj => hrd.out j hj (by omega))))
      have hve : Hid (x = vals s.data.toList) := by
        have e := hxe.out
        rw [List.take_of_length_le (by simp; omega)] at e
        exact e
      go_wp2
      go_ret2
      exact ⟨by rw [hdt.out, ← hve.out]; rfl, rfl⟩

theorem plain_of {s : ByteArray} (h1 : 0 < s.size) (h2 : s.size ≤ 18) (h3 : s[0] ≠ 48 ∨ s.data.toList = [48]) (h4 : ∀ c ∈ s.data.toList, Digit c) : Plain s := by
  refine ⟨h1, h2, fun ⟨a, e⟩ => ?_, h4⟩
  rw [head_at s h1] at e
  rcases h3 with h | h
  · exact h (Option.some.inj e)
  · have hz : s.data.toList.length = s.size := by simp
    rw [h] at hz; simp at hz; omega
theorem head_plain {s : ByteArray} (h : Plain s) (h1 : 0 < s.size) (e : s[0] = 48) : s.data.toList = [48] := by
  have hz : s.data.toList.length = s.size := by simp
  have h2 := head_at s h1
  have h3 : ¬ 1 < s.size := fun h3 => h.2.2.1 ⟨h3, by rw [h2, e]⟩
  match hl : s.data.toList with
  | [] => rw [hl] at hz; simp at hz; omega
  | [c] => rw [hl] at h2; simp at h2; rw [h2, e]
  | a :: b :: l => rw [hl] at hz; simp at hz; omega

theorem rnum_any (w : World) (s r : ByteArray) (b d : Bool) (hc : Cut s r b) (hd : d = true ↔ NumOk b r) :
    Calls Tryd.prog 39 #[.string s] w fun e w' => e = .returned (numAns d (signed b (vals r.data.toList))) ∧ w = w' := by
  have hz : r.data.toList.length = r.size := by simp
  have no : ¬ NumOk b r → d = false := fun h => by cases d; rfl; exact absurd (hd.1 rfl) h
  cases b
  · obtain ⟨rfl, h45⟩ := cut_false hc
    by_cases h0 : 0 < r.size
    · by_cases h18 : r.size ≤ 18
      · by_cases h48 : r[0] = 48
        · by_cases hn : r.data.toList = [48]
          · refine rnum_plus_walk_nought w r h0 (h45 h0) h18 hn d ?_
            rw [Bool.eq_iff_iff, hd, decide_eq_true_iff]
            exact ⟨fun h => h.1.2.2.2, fun h => ⟨plain_of h0 h18 (.inr hn) h, fun ⟨e, _⟩ => by cases e⟩⟩
          · rw [no fun h => hn (head_plain h.1 h0 h48)]
            exact rnum_plus_zero w r h0 (h45 h0) h0 h18 h48 hn
        · refine rnum_plus_walk_digit w r h0 (h45 h0) h18 h48 d ?_
          rw [Bool.eq_iff_iff, hd, decide_eq_true_iff]
          exact ⟨fun h => h.1.2.2.2, fun h => ⟨plain_of h0 h18 (.inl h48) h, fun ⟨e, _⟩ => by cases e⟩⟩
      · rw [no fun h => h18 h.1.2.1]
        exact rnum_plus_size w r h0 (h45 h0) (fun h => h18 h.2)
    · rw [no fun h => h0 h.1.1]
      exact rnum_empty w r (by omega)
  · obtain ⟨hs, h45, hx, hlt⟩ := cut_true hc
    by_cases h0 : 0 < r.size
    · by_cases h18 : r.size ≤ 18
      · by_cases h48 : r[0] = 48
        · have hs48 : s.data.toList ≠ [48] := fun e => by
            have e2 := head_at s hs
            rw [e, h45] at e2
            cases e2
          rw [no fun h => h.2 ⟨rfl, head_plain h.1 h0 h48⟩]
          exact rnum_minus_zero w s r hs h45 hx h0 h18 h48 hs48
        · refine rnum_minus_walk_digit w s r hs h45 hx hlt h0 h18 h48 d ?_
          rw [Bool.eq_iff_iff, hd, decide_eq_true_iff]
          refine ⟨fun h => h.1.2.2.2, fun h => ⟨plain_of h0 h18 (.inl h48) h, fun ⟨_, e⟩ => ?_⟩⟩
          have e2 := head_at r h0
          rw [e] at e2
          exact h48 (Option.some.inj e2).symm
      · rw [no fun h => h18 h.1.2.1]
        exact rnum_minus_size w s r hs h45 hx (fun h => h18 h.2)
    · rw [no fun h => h0 h.1.1]
      exact rnum_minus_size w s r hs h45 hx (fun h => h0 h.1)
theorem cnum_any (w : World) (s r : ByteArray) (b d : Bool) (hc : Cut s r b) (hd : d = true ↔ NumOk b r) :
    Calls Tryd.prog 38 #[.string s] w fun e w' => e = .returned (numAns d (signed b (vals r.data.toList))) ∧ w = w' := by
  cases d
  · exact number_bad_text w s r b hc (fun h => by cases hd.2 h)
  · exact number_good w s r b hc (hd.1 rfl)

end Go.Proofs.YtadcmjcafimkeaaDoor.P1
