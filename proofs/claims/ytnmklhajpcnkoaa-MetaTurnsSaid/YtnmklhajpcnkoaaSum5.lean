/-
  The reference's Sum; package sum's tail and Seal, the reference's Seal, by contracts. (SumC and SumD without Open and the statements of chapter 2.)
-/
import Derived.Test.YtnmklhajpcnkoaaSumB
namespace Go.Proofs.Ytnmklhajpcnkoaa.P2
open Go Go.RowKit Go.Lib Go.Proofs.Ytnmklhajpcnkoaa.P0

theorem upd_byte {s : ByteArray} {j x y : Nat} (h : j < s.size) (hy : y = upd x (s.data.toList.take j)) : bitN 8 (y ^^^ s[j].toNat) = upd x (s.data.toList.take (j + 1)) := by
  rw [bytes_take h, upd_snoc, hy]
theorem bit_odd {y : Nat} (h : y % 2 = 1) (hy : y < 4294967296) : bits .xor .u32 ((y : Int) / 2) 2197175160 = (bit1 y : Int) := by
  have e0 : ((y : Int) / 2) = ((y / 2 : Nat) : Int) := by omega
  rw [e0, bit1, if_pos h]
  exact u32_xor_nat (y / 2) 2197175160 (by omega) (by decide)
theorem bit_even {y : Nat} (h : ¬ y % 2 = 1) : ((y : Int) / 2) = (bit1 y : Int) := by
  rw [bit1, if_neg h]; omega

theorem rSum_any (w : World) (s : ByteArray) (hs : s.size ≤ 9223372036854775807) :
    Calls Try.prog 55 #[.string s] w fun r w' => r = .returned (.int .u32 (crc s.data.toList)) ∧ w = w' := by
  go_enter Try.func55, Try.ntmps55
  go_wp2
  go_loop [3, 4] (fun v i => ∃ j x : Nat, j ≤ s.size ∧ i = .int .i64 j ∧ v = .int .u32 (x : Int) ∧ x < 4294967296 ∧ Hid (x = upd 4294967295 (s.data.toList.take j))) (fun _ i => s.size - (RowKit.intOf i).toNat)
  case atStart => exact ⟨0, 4294967295, Nat.zero_le _, rfl, rfl, by decide, rfl⟩
  case round =>
    obtain ⟨j, x, hj, rfl, rfl, hx, hxe⟩ := hrel
    by_cases hjt : j < s.size
    · have hxc := xor_code hx s[j]
      have hzl := xor_byte_lt hx s[j]
      have hU := upd_byte hjt hxe.out
      generalize hz : x ^^^ s[j].toNat = z at hxc hzl hU
      have HU := Lib.hid hU
      clear hz hxe hU
      go_wp2
      go_loop [3, 5] (fun v i => ∃ k y : Nat, k ≤ 8 ∧ i = .int .i64 k ∧ v = .int .u32 (y : Int) ∧ y < 4294967296 ∧ Hid (y = bitN k z)) (fun _ i => 8 - (RowKit.intOf i).toNat)
      case atStart => exact ⟨0, z, by omega, rfl, rfl, hzl, rfl⟩
      case round =>
        obtain ⟨k, y, hk, rfl, rfl, hy, hye⟩ := hrel
        by_cases h8 : k < 8
        · have hl := Lib.hid (bit1_lt hy)
          have hb : Hid (bit1 y = bitN (k + 1) z) := by show _ = _; rw [hye.out]; rfl
          by_cases hodd : y % 2 = 1
          · have h1 := Lib.hid (bit_odd hodd hy)
            have ho : (((y : Int) % 2) == 1) = true := by simp; omega
            clear hodd
            go_wp2
            go_round
            case rel => exact ⟨k + 1, bit1 y, by omega, by go_num, congrArg _ h1.out, hl.out, hb⟩
            case measure => simp [RowKit.intOf]; omega
          · have h1 := Lib.hid (bit_even hodd)
            have ho : (((y : Int) % 2) == 1) = false := by simp; omega
            clear hodd
            go_wp2
            go_round
            case rel => exact ⟨k + 1, bit1 y, by omega, by go_num, congrArg _ h1.out, hl.out, hb⟩
            case measure => simp [RowKit.intOf]; omega
        · have hk8 : k = 8 := by omega
          have hb : Hid (y = upd 4294967295 (s.data.toList.take (j + 1))) := by show _ = _; rw [hye.out, hk8]; exact HU.out
          clear hk8
          go_wp2
          go_round
          case rel => exact ⟨j + 1, y, by omega, by go_num, rfl, hy, hb⟩
          case measure => simp [RowKit.intOf]; omega
    · have hU : Hid (((4294967295 ^^^ x : Nat) : Int) = (crc s.data.toList : Int)) := by
        show _ = _
        rw [hxe.out, List.take_of_length_le (by simp; omega)]; rfl
      have hf := fin_code hx
      go_wp2
      go_ret
      exact ⟨by rw [← hU.out]; rfl, rfl⟩

theorem crc_lt' (l : List UInt8) : crc l < 4294967296 := crc_lt l
/-- four bytes of a row that was just made, as a text -/
theorem four_string (w : World) (x : Nat) :
    (convert 63 9 (.slice (some ⟨w.heap.size, 0, none⟩) 4 4)).run Try.prog (w.alloc (.cells #[.int .u8 ((x : Int) % 256), .int .u8 ((x : Int) / 256 % 256), .int .u8 ((x : Int) / 65536 % 256), .int .u8 ((x : Int) / 16777216 % 256)] 5)) =
      .ok (.string (str (low 4 x))) (w.alloc (.cells #[.int .u8 ((x : Int) % 256), .int .u8 ((x : Int) / 256 % 256), .int .u8 ((x : Int) / 65536 % 256), .int .u8 ((x : Int) / 16777216 % 256)] 5)) := by
  have hl : low 4 x = [UInt8.ofNat x, UInt8.ofNat (x / 256), UInt8.ofNat (x / 65536), UInt8.ofNat (x / 16777216)] := by
    simp [low, List.range, List.range.loop]
  have e : ∀ n : Nat, ((n : Int) % 256) = (((UInt8.ofNat n).toNat : Nat) : Int) := fun n => by rw [UInt8.toNat_ofNat']; omega
  rw [hl]
  refine run_convert_bytes_back _ 63 9 5 ⟨w.heap.size, 0, none⟩ 4 [UInt8.ofNat x, UInt8.ofNat (x / 256), UInt8.ofNat (x / 65536), UInt8.ofNat (x / 16777216)] Try.underlying63 Try.underlying5 Try.underlying9 (fun j hj => ?_)
  rw [show (⟨w.heap.size, 0, none⟩ : Addr).add j = ⟨w.heap.size, j, none⟩ by rw [Go.WideShapes.add_plain, Nat.zero_add], cell_at (new_at w _ _)]
  have e1 := e x
  have e2 := e (x / 256)
  have e3 := e (x / 65536)
  have e4 := e (x / 16777216)
  simp only [Int.natCast_ediv, Int.cast_ofNat_Int] at e2 e3 e4
  rw [e1, e2, e3, e4]
  match j, hj with
  | 0, _ => rfl
  | 1, _ => rfl
  | 2, _ => rfl
  | 3, _ => rfl
  | n + 4, h => exact absurd h (by simp)

theorem tail_any (w : World) (s : ByteArray) (hs : s.size ≤ 9223372036854775807) :
    Calls Try.prog 54 #[.string s] w fun r w' => r = .returned (.string (str (low 4 (crc s.data.toList)))) ∧ Below w.heap.size w w' := by
  have hT := TextsIn.new w [s] 1 (by simp) (fun i h => by
    obtain rfl : i = 0 := by simpa using h
    exact hs)
  have H := of_any _ _ _ hT
  rw [show allOf [s] = s.data.toList by simp [allOf]] at H
  have hlt := crc_lt' s.data.toList
  generalize crc s.data.toList = x at H hlt
  have HF := four_string (w.alloc (.cells #[.string s] 9)) x
  rw [show (x : Int) / 16777216 % 256 = (x : Int) / 16777216 by omega, show (w.alloc (.cells #[.string s] 9)).heap.size = w.heap.size + 1 by simp] at HF
  generalize str (low 4 x) = z at HF
  have HH := Lib.hid H
  have hB := Lib.hid (((Below.refl _ w).alloc (Nat.le_refl _) (.cells #[.string s] 9)).alloc (by simp) (.cells #[.int .u8 ((x : Int) % 256), .int .u8 ((x : Int) / 256 % 256), .int .u8 ((x : Int) / 65536 % 256), .int .u8 ((x : Int) / 16777216)] 5))
  clear H hT
  go_enter Try.func54, Try.ntmps54
  go_wp2_with (go_at_call 66; refine HH.out.mono ?_; rintro e w1 ⟨rfl, rfl⟩)
  go_ret
  exact ⟨rfl, hB.out⟩

/-- a text's sum in bytes -/
def tailOf (s : ByteArray) : ByteArray := str (low 4 (crc s.data.toList))
/-- a text with its sum behind it -/
def sealOf (s : ByteArray) : ByteArray := s ++ tailOf s
theorem tail_size (s : ByteArray) : (tailOf s).size = 4 := by rw [tailOf, str_size, low_length]
theorem seal_size (s : ByteArray) : (sealOf s).size = s.size + 4 := by rw [sealOf, size_app, tail_size]

theorem seal_any (w : World) (s : ByteArray) (hs : s.size ≤ 1000000) :
    Calls Try.prog 39 #[.string s] w fun r w' => r = .returned (.string (sealOf s)) ∧ Below w.heap.size w w' := by
  have H := Lib.hid (show Calls Try.prog 54 #[.string s] w fun r w' => r = .returned (.string (tailOf s)) ∧ Below w.heap.size w w' from tail_any w s (by omega))
  have hz := tail_size s
  have e : sealOf s = s ++ tailOf s := rfl
  rw [e]
  generalize tailOf s = z at H hz
  clear e
  go_enter Try.func39, Try.ntmps39
  go_wp2_with (go_at_call 54; refine H.out.mono ?_; rintro e w1 ⟨rfl, hb⟩)
  go_ret
  exact ⟨rfl, hb⟩
theorem rSeal_any (w : World) (s : ByteArray) (hs : s.size ≤ 1000000) :
    Calls Try.prog 40 #[.string s] w fun r w' => r = .returned (.string (sealOf s)) ∧ Below w.heap.size w w' := by
  have H1 := rSum_any w s (by omega)
  have hlt := crc_lt s.data.toList
  have hz := tail_size s
  have e : sealOf s = s ++ tailOf s := rfl
  rw [e]
  have H2 := rLow_any w (crc s.data.toList) 4 (by omega) (by omega)
  rw [show str (low 4 (crc s.data.toList)) = tailOf s from rfl] at H2
  generalize tailOf s = z at H2 hz
  generalize crc s.data.toList = x at H1 H2 hlt
  have HH1 := Lib.hid H1
  have HH2 := Lib.hid H2
  clear e H1 H2
  go_enter Try.func40, Try.ntmps40
  go_wp2_with (first
    | (go_at_call 55; refine HH1.out.mono ?_; rintro e w1 ⟨rfl, rfl⟩)
    | (go_at_call 24; refine HH2.out.mono ?_; rintro e w2 ⟨rfl, hb⟩))
  go_ret
  exact ⟨rfl, hb⟩


end Go.Proofs.Ytnmklhajpcnkoaa.P2
