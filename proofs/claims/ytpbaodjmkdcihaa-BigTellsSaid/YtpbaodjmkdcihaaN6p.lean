/-
  A part of a value: package big's part; strings.Clone.
-/
import Derived.Test.YtpbaodjmkdcihaaN4
import Derived.Test.YtpbaodjmkdcihaaShelf
namespace Go.Proofs.Ytpbaodjmkdcihaa.P11
open Go Go.RowKit Go.Lib Go.Proofs.Ytpbaodjmkdcihaa.PK

set_option maxRecDepth 100000 in
theorem sClone_any (w : World) (s : ByteArray) (hs : s.size ≤ 281474976710656) : Calls Try.prog 32 #[.string s] w fun e w' => e = .returned (.string s) ∧ Below w.heap.size w w' := by
  have H := fun w' : World => Lib.hid (Try.stringslite_Clone s w' hs)
  go_enter Try.func32, Try.ntmps32
  go_wp2_with (go_at_call 40; refine (H _).out.mono ?_; rintro e w' ⟨rfl, hb⟩)
  go_ret
  exact ⟨rfl, hb⟩

set_option maxRecDepth 100000 in
set_option maxHeartbeats 2000000 in
theorem part_any (w : World) (value : ByteArray) (i : Nat) (hs : value.size ≤ 2000) (hi : 232 * i ≤ value.size) :
    Calls Try.prog 18 #[.string value, .int .i64 i] w fun e w' => e = .returned (.string (value.extract (232 * i) (min (232 * i + 232) value.size))) ∧ Below w.heap.size w w' := by
  have HC := Lib.hid (fun W s h => sClone_any W s h)
  have hmul : (i : Int) * 232 = 232 * (i : Int) := by omega
  have hm1 : min (232 * (i : Int)) (value.size : Int) = 232 * (i : Int) := by omega
  by_cases hm : 232 * i + 232 ≤ value.size
  · rw [Nat.min_eq_left hm]
    have hm2 : min (232 * (i : Int) + 232) (value.size : Int) = 232 * (i : Int) + 232 := by omega
    have hn1 : (232 * (i : Int) + 232).toNat = 232 * i + 232 := by omega
    have hn0 : (232 * (i : Int)).toNat = 232 * i := by omega
    have hz : (value.extract (232 * i) (232 * i + 232)).size ≤ 281474976710656 := by rw [ByteArray.size_extract]; omega
    go_enter Try.func18, Try.ntmps18
    go_wp2_with (first
      | (go_at_call 32; (with_reducible refine (HC.out _ _ hz).mono ?_); rintro e w1 ⟨rfl, hb⟩; have B1 := Lib.hid hb; clear hb))
    go_ret
    exact ⟨rfl, B1.out⟩
  · rw [Nat.min_eq_right (by omega)]
    have hm2 : min (232 * (i : Int) + 232) (value.size : Int) = (value.size : Int) := by omega
    have hn0 : (232 * (i : Int)).toNat = 232 * i := by omega
    have hz : (value.extract (232 * i) value.size).size ≤ 281474976710656 := by rw [ByteArray.size_extract]; omega
    go_enter Try.func18, Try.ntmps18
    go_wp2_with (first
      | (go_at_call 32; (with_reducible refine (HC.out _ _ hz).mono ?_); rintro e w1 ⟨rfl, hb⟩; have B1 := Lib.hid hb; clear hb))
    go_ret
    exact ⟨rfl, B1.out⟩

end Go.Proofs.Ytpbaodjmkdcihaa.P11
