/-
  The reference's Digits, by a contract: the decimal numeral.
-/
import Derived.Test.YtadcmjcafimkeaaDoorAlive
namespace Go.Proofs.YtadcmjcafimkeaaDoor.P1
open Go Go.RowKit Go.Lib

def dd (u : Nat) : List UInt8 := if u = 0 then [] else Lib.decDigits u
theorem dd_step (u : Nat) : dd (u / 10) ++ [UInt8.ofNat (48 + u % 10)] = Lib.decDigits u := by
  unfold dd
  rw [Lib.decDigits.eq_1 u]
  by_cases h : u < 10
  · rw [dif_pos h, if_pos (by omega), Nat.mod_eq_of_lt h]; rfl
  · rw [dif_neg h, if_neg (by omega)]
def DInv (U u : Nat) (t : List UInt8) : Prop := (t = [] ∧ u = U) ∨ (t ≠ [] ∧ dd u ++ t = Lib.decDigits U)
theorem DInv.step {U u : Nat} {t : List UInt8} (h : DInv U u t) (hc : 0 < u ∨ t = []) : DInv U (u / 10) (UInt8.ofNat (48 + u % 10) :: t) := by
  refine .inr ⟨by simp, ?_⟩
  have e := dd_step u
  rcases h with ⟨rfl, rfl⟩ | ⟨h1, h2⟩
  · exact e
  · have hu : 0 < u := by rcases hc with h | h; exact h; exact absurd h h1
    have hd : dd u = Lib.decDigits u := by unfold dd; rw [if_neg (by omega)]
    rw [hd, ← e, List.append_assoc] at h2
    exact h2
theorem DInv.done {U u : Nat} {t : List UInt8} (h : DInv U u t) (hu : u = 0) (ht : t ≠ []) : t = Lib.decDigits U := by
  rcases h with ⟨h, _⟩ | ⟨_, h⟩
  · exact absurd h ht
  · subst hu; simpa [dd] using h

theorem nDigits_le (u : Nat) : Lib.nDigits u ≤ u / 10 + 1 := by
  induction u using Nat.strongRecOn with
  | _ u ih =>
    by_cases h : u < 10
    · rw [Lib.nDigits_small h]; omega
    · rw [Lib.nDigits_big h]
      have := ih (u / 10) (by omega)
      omega
theorem DInv.size {U u : Nat} {t : ByteArray} (h : DInv U u t.data.toList) (hU : U < 18446744073709551616) : t.size < 2000000000000000000 := by
  have hl : t.data.toList.length = t.size := by simp
  rcases h with ⟨h, _⟩ | ⟨_, h⟩
  · rw [h] at hl; simp at hl; omega
  · have := congrArg List.length h
    rw [List.length_append, Lib.decDigits_length] at this
    have h2 := nDigits_le U
    omega
theorem dig_byte (u : Nat) : (UInt8.ofNat (48 + u % 10)).toNat = 48 + u % 10 := by
  rw [UInt8.toNat_ofNat']; omega
theorem one_string (w : World) (u : Nat) :
    (convert 26 9 (.slice (some ⟨w.heap.size, 0, none⟩) 1 1)).run Tryd.prog (w.alloc (.cells #[.int .u8 (48 + (u : Int) % 10)] 5)) = .ok (.string ⟨#[UInt8.ofNat (48 + u % 10)]⟩) (w.alloc (.cells #[.int .u8 (48 + (u : Int) % 10)] 5)) := by
  have e : (48 + (u : Int) % 10) = (((UInt8.ofNat (48 + u % 10)).toNat : Nat) : Int) := by rw [dig_byte]; omega
  rw [e]
  exact run_convert_bytes_back _ 26 9 5 ⟨w.heap.size, 0, none⟩ 1 [UInt8.ofNat (48 + u % 10)] Tryd.underlying26 Tryd.underlying5 Tryd.underlying9 (fun j hj => by
    obtain rfl : j = 0 := by simp at hj; omega
    exact cell_one_new _ _ _ 0 _ rfl)
theorem next_digit {U u : Nat} {t : ByteArray} (h : DInv U u t.data.toList) (hc : 0 < u ∨ t.data.toList = []) : DInv U (u / 10) ((⟨#[UInt8.ofNat (48 + u % 10)]⟩ : ByteArray) ++ t).data.toList := by
  have e : ((⟨#[UInt8.ofNat (48 + u % 10)]⟩ : ByteArray) ++ t).data.toList = UInt8.ofNat (48 + u % 10) :: t.data.toList := by
    simp [ByteArray.data_append]
  rw [e]; exact h.step hc
/-- the loop's measure -/
def dMeas (s v : Value) : Nat := match s, v with
  | .string t, .int _ n => n.toNat + (if t.data.toList = [] then 1 else 0)
  | _, _ => 0
theorem dMeas_lt (t : ByteArray) (u : Nat) (h : 0 < u ∨ t.data.toList = []) :
    dMeas (.string ((⟨#[UInt8.ofNat (48 + u % 10)]⟩ : ByteArray) ++ t)) (.int .u64 ((u : Int) / 10)) < dMeas (.string t) (.int .u64 (u : Int)) := by
  have e : ((⟨#[UInt8.ofNat (48 + u % 10)]⟩ : ByteArray) ++ t).data.toList ≠ [] := by simp [ByteArray.data_append]
  simp only [dMeas, if_neg e]
  split <;> rename_i h1
  · omega
  · have : 0 < u := by rcases h with h | h; exact h; exact absurd h h1
    omega
theorem round_facts (w : World) {U u : Nat} {t : ByteArray} (h : DInv U u t.data.toList) (hc : 0 < u ∨ t.data.toList = []) : ∃ c : UInt8,
    (convert 26 9 (.slice (some ⟨w.heap.size, 0, none⟩) 1 1)).run Tryd.prog (w.alloc (.cells #[.int .u8 (48 + (u : Int) % 10)] 5)) = .ok (.string ⟨#[c]⟩) (w.alloc (.cells #[.int .u8 (48 + (u : Int) % 10)] 5)) ∧
    Hid (DInv U (u / 10) ((⟨#[c]⟩ : ByteArray) ++ t).data.toList) ∧ Hid (dMeas (.string ((⟨#[c]⟩ : ByteArray) ++ t)) (.int .u64 ((u : Int) / 10)) < dMeas (.string t) (.int .u64 (u : Int))) :=
  ⟨UInt8.ofNat (48 + u % 10), one_string w u, next_digit h hc, dMeas_lt t u hc⟩
theorem str_of {t : ByteArray} {l : List UInt8} (h : t.data.toList = l) : t = ⟨l.toArray⟩ := by
  apply ByteArray.ext; rw [← h]

set_option maxHeartbeats 400000 in
theorem rDigits_pos (w : World) (U : Nat) (hU : U < 9223372036854775808) :
    Calls Tryd.prog 41 #[.int .i64 U] w fun r w' => r = .returned (.string ⟨(Lib.itoa U).toArray⟩) ∧ Below w.heap.size w w' := by
  have hU2 : U < 18446744073709551616 := by omega
  have hI := Lib.hid (Lib.itoa_nonneg U)
  go_enter Tryd.func41, Tryd.ntmps41
  go_wp2
  go_loopw [3, 4] (fun s v wr => ∃ (t : ByteArray) (u : Nat), s = .string t ∧ v = .int .u64 u ∧ u < 18446744073709551616 ∧ Hid (DInv U u t.data.toList) ∧ Below w.heap.size w wr) (fun s v _ => dMeas s v)
  case atStart => exact ⟨⟨#[]⟩, U, rfl, rfl, hU2, .inl ⟨rfl, rfl⟩, Below.refl _ _⟩
  case round =>
    obtain ⟨t, u, rfl, rfl, hu, hinv, hb⟩ := hrel
    have hs : 1 + t.size ≤ 9223372036854775807 := by have := DInv.size hinv.out hU2; omega
    by_cases h0 : 0 < u ∨ t.data.toList = []
    · have hrf := round_facts wr hinv.out h0
      obtain ⟨c, kc, hnext, hm⟩ := hrf
      have hb2 : Below w.heap.size w (wr.alloc (.cells #[.int .u8 (48 + (u : Int) % 10)] 5)) := hb.alloc hb.size _
      by_cases hu0 : 0 < u
      · clear h0
        go_wp2
        exact ⟨⟨_, u / 10, rfl, by go_num, by omega, hnext, hb2⟩, hm.out⟩
      · have ht : t.toList.isEmpty = true := by rw [ByteArray.toList_eq]; rcases h0 with h | h; exact absurd h hu0; rw [h]; rfl
        clear h0
        go_wp2
        exact ⟨⟨_, u / 10, rfl, by go_num, by omega, hnext, hb2⟩, hm.out⟩
    · obtain rfl : u = 0 := by omega
      have hne : t.data.toList ≠ [] := fun h => h0 (.inr h)
      have ht : t.toList.isEmpty = false := by rw [ByteArray.toList_eq]; cases h : t.data.toList; exact absurd h hne; rfl
      have hd := Lib.hid (hinv.out.done rfl hne)
      clear h0
      go_wp2
      go_ret
      exact ⟨by rw [hI.out]; exact congrArg (fun x => Ending.returned (.string x)) (str_of hd.out), hb⟩

theorem neg_str {t : ByteArray} {l : List UInt8} (h : t.data.toList = l) : (⟨#[45]⟩ : ByteArray) ++ t = ⟨(45 :: l).toArray⟩ := by
  apply ByteArray.ext; rw [ByteArray.data_append, ← h]; simp
theorem neg_wrap (U : Nat) (h0 : 1 ≤ U) (hU : U ≤ 9223372036854775808) : IntKind.u64.wrap (-(IntKind.u64.wrap (-(U : Int)))) = (U : Int) := by
  rw [IntKind.wrap_u64, IntKind.wrap_u64]; omega

set_option maxHeartbeats 400000 in
theorem rDigits_neg (w : World) (U : Nat) (h0 : 1 ≤ U) (hU : U ≤ 9223372036854775808) :
    Calls Tryd.prog 41 #[.int .i64 (-(U : Int))] w fun r w' => r = .returned (.string ⟨(Lib.itoa (-(U : Int))).toArray⟩) ∧ Below w.heap.size w w' := by
  have hU2 : U < 18446744073709551616 := by omega
  have hI := Lib.hid (Lib.itoa_neg U h0)
  have hn : decide (-(U : Int) < 0) = true := decide_eq_true (by omega)
  have hw := neg_wrap U h0 hU
  go_enter Tryd.func41, Tryd.ntmps41
  go_wp2
  go_loopw [3, 4] (fun s v wr => ∃ (t : ByteArray) (u : Nat), s = .string t ∧ v = .int .u64 u ∧ u < 18446744073709551616 ∧ Hid (DInv U u t.data.toList) ∧ Below w.heap.size w wr) (fun s v _ => dMeas s v)
  case atStart => exact ⟨⟨#[]⟩, U, rfl, rfl, hU2, .inl ⟨rfl, rfl⟩, Below.refl _ _⟩
  case round =>
    obtain ⟨t, u, rfl, rfl, hu, hinv, hb⟩ := hrel
    have hs : 1 + t.size ≤ 9223372036854775807 := by have := DInv.size hinv.out hU2; omega
    by_cases h0 : 0 < u ∨ t.data.toList = []
    · have hrf := round_facts wr hinv.out h0
      obtain ⟨c, kc, hnext, hm⟩ := hrf
      have hb2 : Below w.heap.size w (wr.alloc (.cells #[.int .u8 (48 + (u : Int) % 10)] 5)) := hb.alloc hb.size _
      by_cases hu0 : 0 < u
      · clear h0
        go_wp2
        exact ⟨⟨_, u / 10, rfl, by go_num, by omega, hnext, hb2⟩, hm.out⟩
      · have ht : t.toList.isEmpty = true := by rw [ByteArray.toList_eq]; rcases h0 with h | h; exact absurd h hu0; rw [h]; rfl
        clear h0
        go_wp2
        exact ⟨⟨_, u / 10, rfl, by go_num, by omega, hnext, hb2⟩, hm.out⟩
    · obtain rfl : u = 0 := by omega
      have hne : t.data.toList ≠ [] := fun h => h0 (.inr h)
      have ht : t.toList.isEmpty = false := by rw [ByteArray.toList_eq]; cases h : t.data.toList; exact absurd h hne; rfl
      have hd := Lib.hid (hinv.out.done rfl hne)
      clear h0
      go_wp2
      go_ret
      exact ⟨by rw [hI.out]; exact congrArg (fun x => Ending.returned (.string x)) (neg_str hd.out), hb⟩

theorem rDigits_any (w : World) (n : Int) (h0 : -9223372036854775808 ≤ n) (h1 : n ≤ 9223372036854775807) :
    Calls Tryd.prog 41 #[.int .i64 n] w fun r w' => r = .returned (.string ⟨(Lib.itoa n).toArray⟩) ∧ Below w.heap.size w w' := by
  by_cases hn : 0 ≤ n
  · obtain ⟨U, rfl⟩ := Int.eq_ofNat_of_zero_le hn
    exact rDigits_pos w U (by omega)
  · obtain ⟨U, hU⟩ := Int.eq_ofNat_of_zero_le (show 0 ≤ -n by omega)
    obtain rfl : n = -(U : Int) := by omega
    exact rDigits_neg w U (by omega) (by omega)

end Go.Proofs.YtadcmjcafimkeaaDoor.P1
