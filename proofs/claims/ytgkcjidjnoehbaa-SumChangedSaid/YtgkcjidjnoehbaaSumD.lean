/-
  Package sum's Seal and Open, the reference's Seal and Open, the statements' first call, by contracts.
-/
import Derived.Test.YtgkcjidjnoehbaaSumC
import Derived.Deep.RegionHeld3
namespace Go.Proofs.Ytgkcjidjnoehbaa.P2
open Go Go.RowKit Go.Lib Go.Proofs.Ytgkcjidjnoehbaa.P0

/-- a text's sum in bytes -/
def tailOf (s : ByteArray) : ByteArray := str (low 4 (crc s.data.toList))
/-- a text with its sum behind it -/
def sealOf (s : ByteArray) : ByteArray := s ++ tailOf s
theorem tail_size (s : ByteArray) : (tailOf s).size = 4 := by rw [tailOf, str_size, low_length]
theorem seal_size (s : ByteArray) : (sealOf s).size = s.size + 4 := by rw [sealOf, size_app, tail_size]

theorem seal_any (w : World) (s : ByteArray) (hs : s.size ≤ 1000000) :
    Calls Try.prog 15 #[.string s] w fun r w' => r = .returned (.string (sealOf s)) ∧ Below w.heap.size w w' := by
  have H := Lib.hid (show Calls Try.prog 19 #[.string s] w fun r w' => r = .returned (.string (tailOf s)) ∧ Below w.heap.size w w' from tail_any w s (by omega))
  have hz := tail_size s
  have e : sealOf s = s ++ tailOf s := rfl
  rw [e]
  generalize tailOf s = z at H hz
  clear e
  go_enter Try.func15, Try.ntmps15
  go_wp2_with (go_at_call 19; refine H.out.mono ?_; rintro e w1 ⟨rfl, hb⟩)
  go_ret
  exact ⟨rfl, hb⟩
theorem rSeal_any (w : World) (s : ByteArray) (hs : s.size ≤ 1000000) :
    Calls Try.prog 16 #[.string s] w fun r w' => r = .returned (.string (sealOf s)) ∧ Below w.heap.size w w' := by
  have H1 := rSum_any w s (by omega)
  have hlt := crc_lt s.data.toList
  have hz := tail_size s
  have e : sealOf s = s ++ tailOf s := rfl
  rw [e]
  have H2 := rLow_any w (crc s.data.toList) 4 (by omega) (by omega)
  rw [show str (low 4 (crc s.data.toList)) = tailOf s from rfl] at H2
  generalize tailOf s = z at H2 hz
  generalize crc s.data.toList = x at H1 H2 hlt
  have HH1 := Lib.hid H1
  have HH2 := Lib.hid H2
  clear e H1 H2
  go_enter Try.func16, Try.ntmps16
  go_wp2_with (first
    | (go_at_call 13; refine HH1.out.mono ?_; rintro e w1 ⟨rfl, rfl⟩)
    | (go_at_call 22; refine HH2.out.mono ?_; rintro e w2 ⟨rfl, hb⟩))
  go_ret
  exact ⟨rfl, hb⟩

theorem alive_crc : crc (allOf [⟨#[49, 50, 51, 52]⟩, ⟨#[53, 54, 55, 56, 57]⟩]) = 3808858755 := by kernel_rfl
theorem alive_any (w : World) :
    Calls Try.prog 8 #[] w fun r w' => r = .returned (.bool true) ∧ Below w.heap.size w w' := by
  have hT := TextsIn.new w [⟨#[49, 50, 51, 52]⟩, ⟨#[53, 54, 55, 56, 57]⟩] 2 (by decide) (fun i h =>
    match i, h with
    | 0, _ => (by decide : (4 : Nat) ≤ 9223372036854775807)
    | 1, _ => (by decide : (5 : Nat) ≤ 9223372036854775807))
  have H := of_any _ _ _ hT
  rw [alive_crc] at H
  have HH := Lib.hid H
  have hB := Lib.hid ((Below.refl _ w).alloc (Nat.le_refl _) (.cells #[.string ⟨#[49, 50, 51, 52]⟩, .string ⟨#[53, 54, 55, 56, 57]⟩] 9))
  clear H hT
  go_enter Try.func8, Try.ntmps8
  go_wp2_with (go_at_call 12; refine HH.out.mono ?_; rintro e w1 ⟨rfl, rfl⟩)
  go_ret
  exact ⟨rfl, hB.out⟩

/-- what Open tells -/
def openS (b : ByteArray) : ByteArray := if 4 ≤ b.size ∧ sealOf (b.extract 0 (b.size - 4)) = b then b.extract 0 (b.size - 4) else ⟨#[]⟩
def openE (b : ByteArray) : Int := if 4 ≤ b.size then (if sealOf (b.extract 0 (b.size - 4)) = b then 0 else 7) else 5
theorem open_short {b : ByteArray} (h : b.size < 4) : openS b = ⟨#[]⟩ ∧ openE b = 5 := ⟨if_neg (fun k => by omega), if_neg (by omega)⟩
theorem open_yes {b : ByteArray} {n : Nat} (hn : b.size = n + 4) (h : sealOf (b.extract 0 n) = b) : openS b = b.extract 0 n ∧ openE b = 0 := by
  have e : b.size - 4 = n := by omega
  unfold openS openE
  rw [e, if_pos ⟨by omega, h⟩, if_pos (by omega), if_pos h]
  exact ⟨rfl, rfl⟩
theorem open_no {b : ByteArray} {n : Nat} (hn : b.size = n + 4) (h : sealOf (b.extract 0 n) ≠ b) : openS b = ⟨#[]⟩ ∧ openE b = 7 := by
  have e : b.size - 4 = n := by omega
  unfold openS openE
  rw [e, if_neg (fun k => h k.2), if_pos (by omega), if_neg h]
  exact ⟨rfl, rfl⟩
theorem open_seal (s : ByteArray) : openS (sealOf s) = s ∧ openE (sealOf s) = 0 := by
  have h : (sealOf s).extract 0 s.size = s := by
    apply text_ext
    rw [Lib.extract_data, sealOf, text_app, Nat.sub_zero, List.drop_zero, ← text_len s, List.take_left]
  have := open_yes (b := sealOf s) (n := s.size) (seal_size s) (by rw [h])
  rwa [h] at this
theorem tail_fits (b : ByteArray) (n : Nat) : b.extract n b.size = tailOf (b.extract 0 n) ↔ sealOf (b.extract 0 n) = b := by
  have e := cut_two b n
  constructor
  · intro h
    rw [sealOf, ← h, e]
  · intro h
    rw [sealOf] at h
    exact (app_cancel (h.trans e.symm)).symm

theorem open_any (w : World) (b : ByteArray) (hs : b.size ≤ 1000000) :
    Calls Try.prog 10 #[.string b] w fun r w' => r = .returned (.tuple #[.string (openS b), .int .i64 (openE b)]) ∧ Below w.heap.size w w' := by
  by_cases h4 : b.size < 4
  · obtain ⟨e1, e2⟩ := open_short h4
    rw [e1, e2]
    have k4 : decide ((b.size : Int) < 4) = true := decide_eq_true (by omega)
    clear h4 e1 e2
    go_enter Try.func10, Try.ntmps10
    go_wp2
    go_ret2
    exact ⟨rfl, Below.refl _ _⟩
  · have k4 : decide ((b.size : Int) < 4) = false := decide_eq_false (by omega)
    obtain ⟨n, hn⟩ : ∃ n : Nat, b.size = n + 4 := ⟨b.size - 4, by omega⟩
    have hx : (b.extract 0 n).size ≤ 1000000 := by rw [ByteArray.size_extract]; omega
    have HT := fun w' => Lib.hid (show Calls Try.prog 19 #[.string (b.extract 0 n)] w' fun r w'' => r = .returned (.string (tailOf (b.extract 0 n))) ∧ Below w'.heap.size w' w'' from tail_any w' _ (by omega))
    have n1 : (b.size : Int) - 4 = (n : Int) := by omega
    have n2 : (0 : Int) ≤ (n : Int) := by omega
    have n3 : (n : Int) ≤ (b.size : Int) := by omega
    have hfit := tail_fits b n
    by_cases h : sealOf (b.extract 0 n) = b
    · obtain ⟨e1, e2⟩ := open_yes hn h
      rw [e1, e2]
      have hc := same_true (hfit.2 h)
      generalize tailOf (b.extract 0 n) = z at HT hc
      clear hx h4 hn hfit h e1 e2
      go_enter Try.func10, Try.ntmps10
      go_wp2
      go_region_held3 (fun _ => True) (trivial) (first | (go_at_call 19; refine (HT _).out.mono ?_; rintro e w1 ⟨rfl, hb⟩))
      go_wp2
      go_ret2
      exact ⟨rfl, ((Below.refl w.heap.size w).drew).trans hb⟩
    · obtain ⟨e1, e2⟩ := open_no hn h
      rw [e1, e2]
      have hc := same_false (fun k => h (hfit.1 k))
      generalize tailOf (b.extract 0 n) = z at HT hc
      clear hx h4 hn hfit h e1 e2
      go_enter Try.func10, Try.ntmps10
      go_wp2
      go_region_held3 (fun _ => True) (trivial) (first | (go_at_call 19; refine (HT _).out.mono ?_; rintro e w1 ⟨rfl, hb⟩))
      go_wp2
      go_ret2
      exact ⟨rfl, ((Below.refl w.heap.size w).drew).trans hb⟩

theorem rOpen_any (w : World) (b : ByteArray) (hs : b.size ≤ 1000000) :
    Calls Try.prog 11 #[.string b] w fun r w' => r = .returned (.tuple #[.string (openS b), .int .i64 (openE b)]) ∧ Below w.heap.size w w' := by
  by_cases h4 : b.size < 4
  · obtain ⟨e1, e2⟩ := open_short h4
    rw [e1, e2]
    have k4 : decide ((b.size : Int) < 4) = true := decide_eq_true (by omega)
    clear h4 e1 e2
    go_enter Try.func11, Try.ntmps11
    go_wp2
    go_ret2
    exact ⟨rfl, Below.refl _ _⟩
  · have k4 : decide ((b.size : Int) < 4) = false := decide_eq_false (by omega)
    obtain ⟨n, hn⟩ : ∃ n : Nat, b.size = n + 4 := ⟨b.size - 4, by omega⟩
    have hx : (b.extract 0 n).size ≤ 1000000 := by rw [ByteArray.size_extract]; omega
    have HT := fun w' => Lib.hid (rSeal_any w' (b.extract 0 n) hx)
    have n1 : (b.size : Int) - 4 = (n : Int) := by omega
    have n2 : (0 : Int) ≤ (n : Int) := by omega
    have n3 : (n : Int) ≤ (b.size : Int) := by omega
    by_cases h : sealOf (b.extract 0 n) = b
    · obtain ⟨e1, e2⟩ := open_yes hn h
      rw [e1, e2]
      have hc := same_true h
      generalize sealOf (b.extract 0 n) = z at HT hc
      clear hx h4 hn h e1 e2
      go_enter Try.func11, Try.ntmps11
      go_wp2_with (go_at_call 16; refine (HT _).out.mono ?_; rintro e w1 ⟨rfl, hb⟩)
      go_ret2
      exact ⟨rfl, hb⟩
    · obtain ⟨e1, e2⟩ := open_no hn h
      rw [e1, e2]
      have hc := same_false h
      generalize sealOf (b.extract 0 n) = z at HT hc
      clear hx h4 hn h e1 e2
      go_enter Try.func11, Try.ntmps11
      go_wp2_with (go_at_call 16; refine (HT _).out.mono ?_; rintro e w1 ⟨rfl, hb⟩)
      go_ret2
      exact ⟨rfl, hb⟩

end Go.Proofs.Ytgkcjidjnoehbaa.P2
