/-
  strings.Clone, strings.Repeat of a zero byte, cmp.Or of two texts.
-/
import Derived.Test.YtlgloikhdbmgdaaBase3
import Derived.Test.YtlgloikhdbmgdaaDk10
import Derived.Test.YtlgloikhdbmgdaaShelf
namespace Go.Proofs.Ytlgloikhdbmgdaa.P4
open Go Go.RowKit Go.Lib Go.Proofs.Ytlgloikhdbmgdaa.P3

theorem repeat_zero : ∀ n, Lib.repeatL [(0 : UInt8)] n = List.replicate n 0 := by
  intro n
  induction n with
  | zero => rfl
  | succ n ih =>
    show [0] ++ Lib.repeatL [0] n = _
    rw [ih]
    rfl

theorem repeat_zeros (w : World) : Calls Try.prog 55 #[.string ⟨#[0]⟩, .int .i64 256] w fun e w' => e = .returned (.string zeros) ∧ Below w.heap.size w w' := by
  have h := Try.strings_Repeat ⟨#[0]⟩ 256 w (by decide) (by decide)
  have e : (⟨(Lib.repeatL (⟨#[0]⟩ : ByteArray).data.toList 256).toArray⟩ : ByteArray) = zeros := by
    unfold zeros
    rw [show (⟨#[0]⟩ : ByteArray).data.toList = [(0 : UInt8)] from rfl, repeat_zero]
  rw [e] at h
  exact h

theorem clone_any (s : ByteArray) (w : World) (hs : s.size ≤ 281474976710656) : Calls Try.prog 36 #[.string s] w fun e w' => e = .returned (.string s) ∧ Below w.heap.size w w' := by
  have H := fun w' : World => Lib.hid (Try.stringslite_Clone s w' hs)
  go_enter Try.func36, Try.ntmps36
  go_wp2_with (go_at_call 51; refine (H _).out.mono ?_; rintro e w' ⟨rfl, hb⟩)
  go_ret
  exact ⟨rfl, hb⟩

theorem or_some (w : World) (B : Nat) (a z : ByteArray) (ha : (!a.toList.isEmpty) = true) (c0 : w.cell? ⟨B, 0, none⟩ = some (.string a)) :
    Calls Try.prog 56 #[.slice (some ⟨B, 0, none⟩) 2 2] w fun e w' => e = .returned (.string a) ∧ w = w' := by
  go_enter Try.func56, Try.ntmps56
  go_wp2
  go_loop [8] (fun i => i = .int .i64 0) (fun _ => 0)
  case atStart => rfl
  case round =>
    subst hrel
    go_wp2
    go_ret
    exact ⟨rfl, rfl⟩
theorem or_none (w : World) (B : Nat) (z : ByteArray) (hz : (!z.toList.isEmpty) = true) (c0 : w.cell? ⟨B, 0, none⟩ = some (.string ⟨#[]⟩)) (c1 : w.cell? ⟨B, 1, none⟩ = some (.string z)) :
    Calls Try.prog 56 #[.slice (some ⟨B, 0, none⟩) 2 2] w fun e w' => e = .returned (.string z) ∧ w = w' := by
  go_enter Try.func56, Try.ntmps56
  go_wp2
  go_loop [8] (fun i => i = .int .i64 0 ∨ i = .int .i64 1) (fun i => (1 - intOf i).toNat)
  case atStart => exact .inl rfl
  case round =>
    rcases hrel with rfl | rfl
    · go_wp2
      go_round
      case rel => exact .inr rfl
      case measure => simp [intOf]
    · go_wp2
      go_ret
      exact ⟨rfl, rfl⟩

theorem full_some {a : ByteArray} (h : a.size ≠ 0) : (!a.toList.isEmpty) = true := by
  cases e : a.toList with
  | nil =>
    exfalso
    apply h
    rw [Lib.toList_data] at e
    rw [Lib.size_eq, e]
    rfl
  | cons x r => rfl
theorem or_back (w : World) (B : Nat) (a : ByteArray) (ha : a.size ≠ 0 ∨ a = ⟨#[]⟩) (c0 : w.cell? ⟨B, 0, none⟩ = some (.string a)) (c1 : w.cell? ⟨B, 1, none⟩ = some (.string zeros)) :
    Calls Try.prog 56 #[.slice (some ⟨B, 0, none⟩) 2 2] w fun e w' => e = .returned (.string (if a.size = 0 then zeros else a)) ∧ w = w' := by
  rcases ha with ha | rfl
  · rw [if_neg ha]
    exact or_some w B a zeros (full_some ha) c0
  · exact or_none w B zeros (full_some (by rw [zeros_size]; decide)) c0 c1

end Go.Proofs.Ytlgloikhdbmgdaa.P4
