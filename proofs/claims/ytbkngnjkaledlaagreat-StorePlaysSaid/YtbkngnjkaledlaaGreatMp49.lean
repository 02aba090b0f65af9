/-
  Texts of the proof of SaidPlay8b.
-/
import Derived.Test.YtbkngnjkaledlaaGreatMp48
set_option maxHeartbeats 8000000
set_option maxRecDepth 100000
namespace Go.Proofs.YtbkngnjkaledlaaGreat.P8
open Go Go.RowKit Go.Lib Go.Maps Go.ChangeMaps Go.MapKept P3 P4
open P5 (Pg)
open P6 (Mt)
theorem plays_long (w : World) (s : ByteArray) (room : Int) (a1 : Option Addr) (n1 c1 : Nat) (id : Int) (h : 30 < n1 ∨ 100 < s.size) :
  Calls Tryz.prog 3 #[.string s, .int .i64 room, .slice a1 n1 c1, .int .i64 id] w fun e w' => e = .returned (.bool true) ∧ Below w.heap.size w w' := by
 have HA := Lib.hid (fun w => alive_any8 w)
 by_cases h1 : 30 < n1
 ·have k1 : decide ((30 : Int) < (n1 : Int)) = true := decide_eq_true (by omega)
  clear h
  go_enter Tryz.func3, Tryz.ntmps3
  go_wp2_with (go_at_call 6; (with_reducible refine (HA.out _).mono ?_); rintro e w1 ⟨rfl, hb⟩; have HC := Lib.hid hb; clear hb)
  go_ret
  exact ⟨rfl, HC.out⟩
 ·have k1 : decide ((30 : Int) < (n1 : Int)) = false := decide_eq_false (by omega)
  have h2 : 100 < s.size := by omega
  have k2 : decide ((100 : Int) < (s.size : Int)) = true := decide_eq_true (by omega)
  clear h
  go_enter Tryz.func3, Tryz.ntmps3
  go_wp2_with (go_at_call 6; (with_reducible refine (HA.out _).mono ?_); rintro e w1 ⟨rfl, hb⟩; have HC := Lib.hid hb; clear hb)
  go_ret
  exact ⟨rfl, HC.out⟩
theorem plays_bad (w : World) (s : ByteArray) (room : Int) (a1 : Option Addr) (n1 c1 : Nat) (id : Int) (h30 : n1 ≤ 30) (h100 : s.size ≤ 100) (hs : ¬ (1 ≤ s.size ∧ s.size ≤ 40)) :
  Calls Tryz.prog 3 #[.string s, .int .i64 room, .slice a1 n1 c1, .int .i64 id] w fun e w' => e = .returned (.bool true) ∧ Below w.heap.size w w' := by
 have HA := Lib.hid (fun w => alive_any8 w)
 have HNw := Lib.hid (fun W => new_disk W room)
 have HOp : Hid (∀ W d, Calls Tryz.prog 8 #[.pointer (some ⟨d, 0, none⟩), .string s] W fun e w' => e = .returned (.tuple #[.pointer none, .int .i64 1]) ∧ Below W.heap.size W w') := fun W d => open_bad W d s (Nat.le_trans h100 (by decide)) hs
 have g3 : decide ((30 : Int) < (n1 : Int)) = false := decide_eq_false (by omega)
 have g4 : decide ((100 : Int) < (s.size : Int)) = false := decide_eq_false (by omega)
 by_cases h1 : s.size < 1
 ·have g1 : decide ((s.size : Int) < 1) = true := decide_eq_true (by omega)
  clear hs
  go_enter Tryz.func3, Tryz.ntmps3
  go_wp2_with (first
   | (go_at_call 6; (with_reducible refine (HA.out _).mono ?_); rintro e w1 ⟨rfl, hb⟩; have HB1 := Lib.hid hb; clear hb)
   | (go_at_call 7; (with_reducible refine (HNw.out _).mono ?_); rintro e w2 ⟨rfl, hb, hn⟩; have HB2 := Lib.hid hb; clear hb hn)
   | (go_at_call 8; (with_reducible refine (HOp.out _ _).mono ?_); rintro e w3 ⟨rfl, hb⟩; have HB3 := Lib.hid hb; clear hb))
  go_ret
  exact ⟨rfl, thenBelow (thenBelow (thenBelow HB1.out HB2.out) (below_new w2 _)) HB3.out⟩
 ·have g1 : decide ((s.size : Int) < 1) = false := decide_eq_false (by omega)
  have g2 : decide ((40 : Int) < (s.size : Int)) = true := decide_eq_true (by omega)
  clear hs
  go_enter Tryz.func3, Tryz.ntmps3
  go_wp2_with (first
   | (go_at_call 6; (with_reducible refine (HA.out _).mono ?_); rintro e w1 ⟨rfl, hb⟩; have HB1 := Lib.hid hb; clear hb)
   | (go_at_call 7; (with_reducible refine (HNw.out _).mono ?_); rintro e w2 ⟨rfl, hb, hn⟩; have HB2 := Lib.hid hb; clear hb hn)
   | (go_at_call 8; (with_reducible refine (HOp.out _ _).mono ?_); rintro e w3 ⟨rfl, hb⟩; have HB3 := Lib.hid hb; clear hb))
  go_ret
  exact ⟨rfl, thenBelow (thenBelow (thenBelow HB1.out HB2.out) (below_new w2 _)) HB3.out⟩
theorem plays_any (w : World) (s : ByteArray) (room : Int) (v : Value) (l : List OpW) (h : OpsIn w v l) (id : Int) :
  Calls Tryz.prog 3 #[.string s, .int .i64 room, v, .int .i64 id] w fun e w' => e = .returned (.bool true) ∧ Below w.heap.size w w' := by
 have k := h
 obtain ⟨a1, c1, rfl, _⟩ := k
 by_cases h1 : 30 < l.length ∨ 100 < s.size
 ·exact plays_long w s room a1 _ c1 id h1
 ·by_cases h2 : 1 ≤ s.size ∧ s.size ≤ 40
  ·exact plays_main w s room l a1 c1 id h (by omega) h2.1 h2.2
  ·exact plays_bad w s room a1 _ c1 id (by omega) (by omega) h2
end Go.Proofs.YtbkngnjkaledlaaGreat.P8
