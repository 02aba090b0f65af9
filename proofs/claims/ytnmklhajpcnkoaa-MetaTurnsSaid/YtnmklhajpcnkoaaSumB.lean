/-
  Package sum's Of, and the reference's Sum, by contracts: both tell the check sum of all bytes, one behind the other.
-/
import Derived.Test.YtnmklhajpcnkoaaSumA
namespace Go.Proofs.Ytnmklhajpcnkoaa.P2
open Go Go.RowKit Go.Lib Go.Proofs.Ytnmklhajpcnkoaa.P0

/-- all texts' bytes, one behind the other -/
def allOf (l : List ByteArray) : List UInt8 := (l.map fun s => s.data.toList).flatten
theorem allOf_nil : allOf [] = [] := rfl
theorem allOf_cons (s : ByteArray) (l : List ByteArray) : allOf (s :: l) = s.data.toList ++ allOf l := by simp [allOf]
theorem allOf_take {l : List ByteArray} {k : Nat} (h : k < l.length) : allOf (l.take (k + 1)) = allOf (l.take k) ++ l[k].data.toList := by
  rw [List.take_succ_eq_append_getElem h]; simp only [allOf, List.map_append, List.flatten_append, List.map_cons, List.map_nil, List.flatten_cons, List.flatten_nil, List.append_nil]
theorem bytes_take {s : ByteArray} {k : Nat} (h : k < s.size) : s.data.toList.take (k + 1) = s.data.toList.take k ++ [s[k]] := by
  rw [List.take_succ_eq_append_getElem (by simpa using h)]
  simp; rfl
theorem xor_code {x : Nat} (h : x < 4294967296) (c : UInt8) : bits .xor .u32 (x : Int) ((c.toNat : Int) % 4294967296) = ((x ^^^ c.toNat : Nat) : Int) := by
  have hc := c.toNat_lt
  rw [show ((c.toNat : Int) % 4294967296) = (c.toNat : Int) by omega]
  exact u32_xor_nat x c.toNat h (by omega)
theorem fin_code {x : Nat} (h : x < 4294967296) : bits .xor .u32 IntKind.u32.max (x : Int) = ((4294967295 ^^^ x : Nat) : Int) :=
  u32_xor_nat 4294967295 x (by decide) h

theorem of_any (w : World) (v : Value) (l : List ByteArray) (h : TextsIn w v l) :
    Calls Try.prog 66 #[v] w fun r w' => r = .returned (.int .u32 (crc (allOf l))) ∧ w = w' := by
  obtain ⟨a, c, rfl, _, hl, hz, hc⟩ := h
  go_enter Try.func66, Try.ntmps66
  go_wp2
  go_loop [3, 9] (fun v i => ∃ k x : Nat, k ≤ l.length ∧ i = .int .i64 k ∧ v = .int .u32 (x : Int) ∧ x < 4294967296 ∧ Hid (x = upd 4294967295 (allOf (l.take k)))) (fun _ i => l.length - (RowKit.intOf i).toNat)
  case atStart => exact ⟨0, 4294967295, Nat.zero_le _, rfl, rfl, by decide, rfl⟩
  case round =>
    obtain ⟨k, x, hk, rfl, rfl, hx, hxe⟩ := hrel
    by_cases hlt : k < l.length
    · obtain ⟨b, off, rfl, hb, hcc⟩ := hc (by omega)
      have hcell := hcc k hlt
      have hT := Lib.hid (allOf_take hlt)
      have hsz := hz k hlt
      generalize l[k] = s at hcell hT hsz
      clear hcc hc hz
      go_wp2
      go_loop [3, 15] (fun v i => ∃ j y : Nat, j ≤ s.size ∧ i = .int .i64 j ∧ v = .int .u32 (y : Int) ∧ y < 4294967296 ∧ Hid (y = upd x (s.data.toList.take j))) (fun _ i => s.size - (RowKit.intOf i).toNat)
      case atStart => exact ⟨0, x, Nat.zero_le _, rfl, rfl, hx, rfl⟩
      case round =>
        obtain ⟨j, y, hj, rfl, rfl, hy, hye⟩ := hrel
        by_cases hjt : j < s.size
        · have hxc := xor_code hy s[j]
          have HS := fun w' => Lib.hid (step_any w' _ (xor_byte_lt hy s[j]))
          have hN := Lib.hid (bitN_lt (xor_byte_lt hy s[j]) 8)
          have hU : Hid (bitN 8 (y ^^^ s[j].toNat) = upd x (s.data.toList.take (j + 1))) := by
            show _ = _
            rw [bytes_take hjt, upd_snoc, hye.out]
          generalize hz : y ^^^ s[j].toNat = z at hxc HS hN hU
          generalize bitN 8 z = q at HS hN hU
          clear hz hye hxe hT hcell
          go_wp2_with (go_at_call 71; refine (HS _).out.mono ?_; rintro e w1 ⟨rfl, rfl⟩)
          go_round
          case rel => exact ⟨j + 1, q, by omega, by go_num, rfl, hN.out, hU⟩
          case measure => simp [RowKit.intOf]; omega
        · have hU : Hid (y = upd 4294967295 (allOf (l.take (k + 1)))) := by
            show _ = _
            rw [hT.out, upd_append, ← hxe.out, hye.out, List.take_of_length_le (by simp; omega)]
          clear hye hxe hT hcell
          go_wp2
          go_round
          case rel => exact ⟨k + 1, y, by omega, by go_num, rfl, hy, hU⟩
          case measure => simp [RowKit.intOf]; omega
    · have hU : Hid (((4294967295 ^^^ x : Nat) : Int) = (crc (allOf l) : Int)) := by
        show _ = _
        rw [hxe.out, List.take_of_length_le (by omega)]; rfl
      have hf := fin_code hx
      go_wp2
      go_ret
      exact ⟨by rw [← hU.out]; rfl, rfl⟩

end Go.Proofs.Ytnmklhajpcnkoaa.P2
