/-
  P404: of a nil disk: the law's walk.
-/
import Derived.Test.YtkagkckapdhaoaaAlive4
namespace Go.Proofs.Ytkagkckapdhaoaa.P4
open Go Go.RowKit Go.Lib Go.Maps Go.ChangeMaps Go.MapKept Go.Proofs.Ytkagkckapdhaoaa.P3

theorem none_long (w : World) (s : ByteArray) (at' : Int) (h : 100 < s.size) : Calls Try.prog 5 #[.string s, .int .i64 at'] w fun e w' => e = .returned (.bool true) ∧ Below w.heap.size w w' := by
  have HA := Lib.hid (fun w => alive_any4 w)
  go_enter Try.func5, Try.ntmps5
  go_wp2_with (go_at_call 8; (with_reducible refine (HA.out _).mono ?_); rintro e w1 ⟨rfl, hb⟩; have HB := Lib.hid hb; clear hb)
  go_ret
  exact ⟨rfl, HB.out⟩
theorem none_step (w w1 w2 : World) (h1 : Hid (Below w.heap.size w w1)) (h2 : Below w1.heap.size w1 w2) : Hid (Below w.heap.size w w2) := Lib.hid (h1.out.trans (h2.mono h1.out.size))
set_option maxRecDepth 100000 in
set_option maxHeartbeats 1000000 in
theorem none_short (w : World) (s : ByteArray) (at' : Int) (h : ¬ 100 < s.size) : Calls Try.prog 5 #[.string s, .int .i64 at'] w fun e w' => e = .returned (.bool true) ∧ Below w.heap.size w w' := by
  have HA := Lib.hid (fun w => alive_any4 w)
  obtain ⟨x, hx0⟩ : ∃ x, x = fillB ⟨#[120]⟩ := ⟨_, rfl⟩
  have HF : Hid (∀ w, Calls Try.prog 11 #[.string ⟨#[120]⟩, .bool true] w fun e w' => e = .returned (.string x) ∧ Below w.heap.size w w') := fun w => by rw [hx0]; exact fill_own w _ (by decide)
  have ST := Lib.hid (fun w1 w2 => none_step w w1 w2)
  clear hx0
  go_enter Try.func5, Try.ntmps5
  go_wp2_with (first
    | (go_at_call 8; (with_reducible refine (HA.out _).mono ?_); rintro e w1 ⟨rfl, hb⟩; have HB := Lib.hid hb; clear hb)
    | (go_at_call 14; (with_reducible refine (restore_nil _).mono ?_); rintro e w2 ⟨rfl, rfl⟩)
    | (go_at_call 19; (with_reducible refine (arm_nil _ _ _).mono ?_); rintro e w2 ⟨rfl, rfl⟩)
    | (go_at_call 21; (with_reducible refine (room_nil _ _).mono ?_); rintro e w2 ⟨rfl, rfl⟩)
    | (go_at_call 16; (with_reducible refine (read_nil _ _ _).mono ?_); rintro e w2 ⟨rfl, hb⟩; have HB := ST.out _ _ HB hb; clear hb)
    | (go_at_call 15; (with_reducible refine (size_dnil _ _).mono ?_); rintro e w3 ⟨rfl, hb⟩; have HB := ST.out _ _ HB hb; clear hb)
    | (go_at_call 20; (with_reducible refine (on_nil _).mono ?_); rintro e w2 ⟨rfl, rfl⟩)
    | (go_at_call 11; (with_reducible refine (HF.out _).mono ?_); rintro e w4 ⟨rfl, hb⟩; have HB := ST.out _ _ HB hb; clear hb)
    | (go_at_call 10; (with_reducible refine (write_nil _ _ _ _).mono ?_); rintro e w5 ⟨rfl, hb⟩; have HB := ST.out _ _ HB hb; clear hb)
    | (go_at_call 12; (with_reducible refine (sync_nil _ _).mono ?_); rintro e w6 ⟨rfl, hb⟩; have HB := ST.out _ _ HB hb; clear hb)
    | (go_at_call 22; (with_reducible refine (cut_nil _ _ _).mono ?_); rintro e w7 ⟨rfl, hb⟩; have HB := ST.out _ _ HB hb; clear hb)
    | (go_at_call 23; (with_reducible refine (rename_nil _ _ _).mono ?_); rintro e w8 ⟨rfl, hb⟩; have HB := ST.out _ _ HB hb; clear hb)
    | (go_at_call 24; (with_reducible refine (remove_nil _ _).mono ?_); rintro e w9 ⟨rfl, hb⟩; have HB := ST.out _ _ HB hb; clear hb)
    | (go_at_call 13; (with_reducible refine (crash_nil _ _).mono ?_); rintro e w2 ⟨rfl, rfl⟩)
    | (go_at_call 25; (with_reducible refine (used_nil _).mono ?_); rintro e w2 ⟨rfl, rfl⟩)
    | (go_at_call 18; (with_reducible refine (dirty_nil _).mono ?_); rintro e w2 ⟨rfl, rfl⟩)
    | (go_at_call 26; (with_reducible refine (list_nil _ _).mono ?_); rintro e w2 ⟨rfl, rfl⟩)
    | (go_at_call 27; (with_reducible refine (twin_nil _).mono ?_); rintro e w2 ⟨rfl, rfl⟩))
  go_ret
  exact ⟨rfl, HB.out⟩
theorem none_any4 (w : World) (s : ByteArray) (at' : Int) : Calls Try.prog 5 #[.string s, .int .i64 at'] w fun e w' => e = .returned (.bool true) ∧ Below w.heap.size w w' := by
  by_cases h : 100 < s.size
  · exact none_long w s at' h
  · exact none_short w s at' h

end Go.Proofs.Ytkagkckapdhaoaa.P4
