/-
  Package pack's plain, by a contract.
-/
import Derived.Test.YtadcmjcafimkeaaDoorRefD
namespace Go.Proofs.YtadcmjcafimkeaaDoor.P1
open Go Go.RowKit Go.Lib

def Digit (c : UInt8) : Prop := 48 ≤ c.toNat ∧ c.toNat ≤ 57
instance (c : UInt8) : Decidable (Digit c) := by unfold Digit; exact inferInstance
/-- 1 to 18 digits, the first of them 0 in 0 alone -/
def Plain (s : ByteArray) : Prop := 1 ≤ s.size ∧ s.size ≤ 18 ∧ ¬ (1 < s.size ∧ s.data.toList.head? = some 48) ∧ ∀ c ∈ s.data.toList, Digit c

theorem head_at (s : ByteArray) (h : 0 < s.size) : s.data.toList.head? = some s[0] := by
  rw [List.head?_eq_getElem?, List.getElem?_eq_getElem (by simpa using h)]; rfl
theorem mem_at (s : ByteArray) (k : Nat) (h : k < s.size) : s[k] ∈ s.data.toList := by
  have : s[k] = s.data.toList[k]'(by simpa using h) := by simp; rfl
  rw [this]; exact List.getElem_mem _
theorem all_at (s : ByteArray) (p : UInt8 → Prop) (h : ∀ k (hk : k < s.size), p s[k]) : ∀ c ∈ s.data.toList, p c := by
  intro c hc
  obtain ⟨k, hk, rfl⟩ := List.getElem_of_mem hc
  exact h k (by simpa using hk)

theorem plain_short (w : World) (s : ByteArray) (h : ¬ (1 ≤ s.size ∧ s.size ≤ 18)) :
    Calls Tryd.prog 50 #[.string s] w fun r w' => r = .returned (.bool false) ∧ w = w' := by
  by_cases h1 : 1 ≤ s.size
  · have k1 : decide ((s.size : Int) < 1) = false := decide_eq_false (by omega)
    have k2 : decide ((18 : Int) < (s.size : Int)) = true := decide_eq_true (by omega)
    clear h h1
    go_enter Tryd.func50, Tryd.ntmps50
    go_wp2
    go_ret
    exact ⟨rfl, rfl⟩
  · have k1 : decide ((s.size : Int) < 1) = true := decide_eq_true (by omega)
    clear h h1
    go_enter Tryd.func50, Tryd.ntmps50
    go_wp2
    go_ret
    exact ⟨rfl, rfl⟩
theorem plain_zero (w : World) (s : ByteArray) (h1 : 1 < s.size) (h2 : s.size ≤ 18) (h3 : s[0] = 48) :
    Calls Tryd.prog 50 #[.string s] w fun r w' => r = .returned (.bool false) ∧ w = w' := by
  have k0 : (((s[0].toNat : Nat) : Int) == 48) = true := by rw [h3]; rfl
  clear h3
  go_enter Tryd.func50, Tryd.ntmps50
  go_wp2
  go_ret
  exact ⟨rfl, rfl⟩
theorem plain_rest (w : World) (s : ByteArray) (h1 : 1 ≤ s.size) (h2 : s.size ≤ 18) (h3 : ¬ (1 < s.size ∧ s[0] = 48)) :
    Calls Tryd.prog 50 #[.string s] w fun r w' => (r = .returned (.bool (decide (∀ c ∈ s.data.toList, Digit c)))) ∧ w = w' := by
  have k1 : decide ((s.size : Int) < 1) = false := decide_eq_false (by omega)
  have k2 : decide ((18 : Int) < (s.size : Int)) = false := decide_eq_false (by omega)
  have k3 : (1 < s.size ∧ (((s[0].toNat : Nat) : Int) == 48) = false) ∨ ¬ 1 < s.size := by
    by_cases h : 1 < s.size
    · refine .inl ⟨h, ?_⟩
      have : s[0] ≠ 48 := fun e => h3 ⟨h, e⟩
      rw [beq_eq_false_iff_ne]
      intro e
      apply this
      apply UInt8.toNat_inj.1
      show s[0].toNat = 48
      omega
    · exact .inr h
  obtain ⟨d, hd⟩ : ∃ d, d = decide (∀ c ∈ s.data.toList, Digit c) := ⟨_, rfl⟩
  rw [← hd]
  have HD := Lib.hid hd
  clear hd h3
  rcases k3 with ⟨k3, k4⟩ | k3
  · go_enter Tryd.func50, Tryd.ntmps50
    go_wp2
    go_loop [3, 24] (fun _ i => ∃ k : Nat, k ≤ s.size ∧ i = .int .i64 k ∧ Hid (∀ j (hj : j < s.size), j < k → Digit s[j])) (fun _ i => s.size - (RowKit.intOf i).toNat)
    case atStart => exact ⟨0, Nat.zero_le _, rfl, fun j _ h => absurd h (Nat.not_lt_zero _)⟩
    case round =>
      obtain ⟨k, hk, rfl, hrd⟩ := hrel
      by_cases hlt : k < s.size
      · by_cases hlo : s[k].toNat < 48
        · have hdf := Lib.hid (HD.out.trans (decide_eq_false (fun h => by have := (h _ (mem_at s k hlt)).1; omega)))
          go_wp2
          go_ret
          exact ⟨by rw [hdf.out]; rfl, rfl⟩
        · by_cases hhi : 57 < s[k].toNat
          · have hdf := Lib.hid (HD.out.trans (decide_eq_false (fun h => by have := (h _ (mem_at s k hlt)).2; omega)))
            have hlo' : 48 ≤ s[k].toNat := by omega
            clear hlo
            go_wp2
            go_ret
            exact ⟨by rw [hdf.out]; rfl, rfl⟩
          · have hnx : Hid (∀ j (hj : j < s.size), j < k + 1 → Digit s[j]) := fun j hj h => by
              by_cases e : j = k
              · subst e; exact ⟨by omega, by omega⟩
              · exact hrd.out j hj (by omega)
            have hlo' : 48 ≤ s[k].toNat := by omega
            have hhi' : s[k].toNat ≤ 57 := by omega
            clear hlo hhi
            go_wp2
            go_round
            case rel => exact ⟨k + 1, by omega, by go_num, hnx⟩
            case measure => simp [RowKit.intOf]; omega
      · have hdt := Lib.hid (HD.out.trans (decide_eq_true (all_at s Digit fun j hj => hrd.out j hj (by omega))))
        go_wp2
        go_ret
        exact ⟨by rw [hdt.out]; rfl, rfl⟩
  · go_enter Tryd.func50, Tryd.ntmps50
    go_wp2
    go_loop [3, 24] (fun _ i => ∃ k : Nat, k ≤ s.size ∧ i = .int .i64 k ∧ Hid (∀ j (hj : j < s.size), j < k → Digit s[j])) (fun _ i => s.size - (RowKit.intOf i).toNat)
    case atStart => exact ⟨0, Nat.zero_le _, rfl, fun j _ h => absurd h (Nat.not_lt_zero _)⟩
    case round =>
      obtain ⟨k, hk, rfl, hrd⟩ := hrel
      by_cases hlt : k < s.size
      · by_cases hlo : s[k].toNat < 48
        · have hdf := Lib.hid (HD.out.trans (decide_eq_false (fun h => by have := (h _ (mem_at s k hlt)).1; omega)))
          go_wp2
          go_ret
          exact ⟨by rw [hdf.out]; rfl, rfl⟩
        · by_cases hhi : 57 < s[k].toNat
          · have hdf := Lib.hid (HD.out.trans (decide_eq_false (fun h => by have := (h _ (mem_at s k hlt)).2; omega)))
            have hlo' : 48 ≤ s[k].toNat := by omega
            clear hlo
            go_wp2
            go_ret
            exact ⟨by rw [hdf.out]; rfl, rfl⟩
          · have hnx : Hid (∀ j (hj : j < s.size), j < k + 1 → Digit s[j]) := fun j hj h => by
              by_cases e : j = k
              · subst e; exact ⟨by omega, by omega⟩
              · exact hrd.out j hj (by omega)
            have hlo' : 48 ≤ s[k].toNat := by omega
            have hhi' : s[k].toNat ≤ 57 := by omega
            clear hlo hhi
            go_wp2
            go_round
            case rel => exact ⟨k + 1, by omega, by go_num, hnx⟩
            case measure => simp [RowKit.intOf]; omega
      · have hdt := Lib.hid (HD.out.trans (decide_eq_true (all_at s Digit fun j hj => hrd.out j hj (by omega))))
        go_wp2
        go_ret
        exact ⟨by rw [hdt.out]; rfl, rfl⟩

end Go.Proofs.YtadcmjcafimkeaaDoor.P1
