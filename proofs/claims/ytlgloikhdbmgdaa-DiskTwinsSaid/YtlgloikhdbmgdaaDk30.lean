/-
  Package disk: Read; a nil disk. (Disk, part 30.)
-/
import Derived.Test.YtlgloikhdbmgdaaDk29
namespace Go.Proofs.Ytlgloikhdbmgdaa.P4
open Go Go.RowKit Go.Lib Go.Maps Go.ChangeMaps Go.MapKept Go.Proofs.Ytlgloikhdbmgdaa.P3

theorem write_nil (w : World) (s : ByteArray) (i : Int) (data : ByteArray) : Calls Try.prog 10 #[.pointer none, .string s, .int .i64 i, .string data] w fun e w' => e = .returned (.int .i64 14) ∧ Below w.heap.size w w' := by
  have H := Lib.hid (fun w v => check_nil w v)
  go_enter Try.func10, Try.ntmps10
  go_wp2_with (go_at_call 31; (with_reducible refine (H.out _ _).mono ?_); rintro e w' ⟨rfl, rfl⟩)
  go_ret
  exact ⟨rfl, below_new _ _⟩
theorem read_nil (w : World) (s : ByteArray) (i : Int) : Calls Try.prog 16 #[.pointer none, .string s, .int .i64 i] w fun e w' => e = .returned (.tuple #[.string ⟨#[]⟩, .int .i64 14]) ∧ Below w.heap.size w w' := by
  have H := Lib.hid (fun w s => find_nil w s)
  go_enter Try.func16, Try.ntmps16
  go_wp2_with (go_at_call 38; (with_reducible refine (H.out _ _).mono ?_); rintro e w' ⟨rfl, hb⟩; have HB := Lib.hid hb; clear hb)
  go_ret2
  exact ⟨rfl, HB.out⟩
theorem sync_nil (w : World) (s : ByteArray) : Calls Try.prog 12 #[.pointer none, .string s] w fun e w' => e = .returned (.int .i64 14) ∧ Below w.heap.size w w' := by
  have H := Lib.hid (fun w s => find_nil w s)
  go_enter Try.func12, Try.ntmps12
  go_wp2_with (go_at_call 38; (with_reducible refine (H.out _ _).mono ?_); rintro e w' ⟨rfl, hb⟩; have HB := Lib.hid hb; clear hb)
  go_ret
  exact ⟨rfl, HB.out⟩
theorem cut_nil (w : World) (s : ByteArray) (i : Int) : Calls Try.prog 22 #[.pointer none, .string s, .int .i64 i] w fun e w' => e = .returned (.int .i64 14) ∧ Below w.heap.size w w' := by
  have H := Lib.hid (fun w s => find_nil w s)
  go_enter Try.func22, Try.ntmps22
  go_wp2_with (go_at_call 38; (with_reducible refine (H.out _ _).mono ?_); rintro e w' ⟨rfl, hb⟩; have HB := Lib.hid hb; clear hb)
  go_ret
  exact ⟨rfl, HB.out⟩
theorem rename_nil (w : World) (s t : ByteArray) : Calls Try.prog 23 #[.pointer none, .string s, .string t] w fun e w' => e = .returned (.int .i64 14) ∧ Below w.heap.size w w' := by
  have H := Lib.hid (fun w v => check_nil w v)
  go_enter Try.func23, Try.ntmps23
  go_wp2_with (go_at_call 31; (with_reducible refine (H.out _ _).mono ?_); rintro e w' ⟨rfl, rfl⟩)
  go_ret
  exact ⟨rfl, below_new _ _⟩
theorem remove_nil (w : World) (s : ByteArray) : Calls Try.prog 24 #[.pointer none, .string s] w fun e w' => e = .returned (.int .i64 14) ∧ Below w.heap.size w w' := by
  have H := Lib.hid (fun w s => find_nil w s)
  go_enter Try.func24, Try.ntmps24
  go_wp2_with (go_at_call 38; (with_reducible refine (H.out _ _).mono ?_); rintro e w' ⟨rfl, hb⟩; have HB := Lib.hid hb; clear hb)
  go_ret
  exact ⟨rfl, HB.out⟩
theorem list_nil (w : World) (s : ByteArray) : Calls Try.prog 26 #[.pointer none, .string s] w fun e w' => e = .returned (.slice none 0 0) ∧ w = w' := by
  have H := Lib.hid (fun w => on_nil w)
  go_enter Try.func26, Try.ntmps26
  go_wp2_with (go_at_call 20; (with_reducible refine (H.out _).mono ?_); rintro e w' ⟨rfl, rfl⟩)
  go_ret
  exact ⟨rfl, rfl⟩
theorem twin_nil (w : World) : Calls Try.prog 27 #[.pointer none] w fun e w' => e = .returned (.pointer none) ∧ w = w' := by
  go_enter Try.func27, Try.ntmps27
  go_wp2
  go_ret
  exact ⟨rfl, rfl⟩
theorem room_nil (w : World) (i : Int) : Calls Try.prog 21 #[.pointer none, .int .i64 i] w fun e w' => e = .returned (.tuple #[]) ∧ w = w' := by
  go_enter Try.func21, Try.ntmps21
  go_wp2
  go_end0
  exact ⟨rfl, rfl⟩
theorem crash_nil (w : World) (v : Value) : Calls Try.prog 13 #[.pointer none, v] w fun e w' => e = .returned (.int .i64 0) ∧ w = w' := by
  have H := Lib.hid (fun w => on_nil w)
  go_enter Try.func13, Try.ntmps13
  go_wp2_with (go_at_call 20; (with_reducible refine (H.out _).mono ?_); rintro e w' ⟨rfl, rfl⟩)
  go_ret
  exact ⟨rfl, rfl⟩
theorem crash_off (w : World) (d : Nat) (v : Value) (c1 : w.cell? ⟨d, 1, none⟩ = some (.bool false)) : Calls Try.prog 13 #[.pointer (some ⟨d, 0, none⟩), v] w fun e w' => e = .returned (.int .i64 0) ∧ w = w' := by
  have H := Lib.hid (on_any w d false c1)
  go_enter Try.func13, Try.ntmps13
  go_wp2_with (go_at_call 20; (with_reducible refine H.out.mono ?_); rintro e w' ⟨rfl, rfl⟩)
  go_ret
  exact ⟨rfl, rfl⟩

end Go.Proofs.Ytlgloikhdbmgdaa.P4
