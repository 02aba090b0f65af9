/-
  Texts of the proof of SaidPlay8b.
-/
import Derived.Test.YtbkngnjkaledlaaGreatMp26
namespace Go.Proofs.YtbkngnjkaledlaaGreat.P2
open Go Go.RowKit Go.Lib P0
def allOf (l : List ByteArray) : List UInt8 := (l.map fun s => s.data.toList).flatten
theorem allOf_take {l : List ByteArray} {k : Nat} (h : k < l.length) : allOf (l.take (k + 1)) = allOf (l.take k) ++ l[k].data.toList := by
 rw [List.take_succ_eq_append_getElem h]; simp only [allOf, List.map_append, List.flatten_append, List.map_cons, List.map_nil, List.flatten_cons, List.flatten_nil, List.append_nil]
theorem bytes_take {s : ByteArray} {k : Nat} (h : k < s.size) : s.data.toList.take (k + 1) = s.data.toList.take k ++ [s[k]] := by
 rw [List.take_succ_eq_append_getElem (by simpa using h)]
 simp; rfl
theorem xor_code {x : Nat} (h : x < 4294967296) (c : UInt8) : bits .xor .u32 (x : Int) ((c.toNat : Int) % 4294967296) = ((x ^^^ c.toNat : Nat) : Int) := by
 have hc := c.toNat_lt
 rw [show ((c.toNat : Int) % 4294967296) = (c.toNat : Int) by omega]
 exact u32_xor_nat x c.toNat h (by omega)
theorem fin_code {x : Nat} (h : x < 4294967296) : bits .xor .u32 IntKind.u32.max (x : Int) = ((4294967295 ^^^ x : Nat) : Int) :=
 u32_xor_nat 4294967295 x (by decide) h
theorem of_any (w : World) (v : Value) (l : List ByteArray) (h : TextsIn w v l) :
  Calls Tryz.prog 177 #[v] w fun r w' => r = .returned (.int .u32 (crc (allOf l))) ∧ w = w' := by
 obtain ⟨a, c, rfl, _, hl, hz, hc⟩ := h
 go_enter Tryz.func177, Tryz.ntmps177
 go_wp2
 go_loop [3, 9] (fun v i => ∃ k x : Nat, k ≤ l.length ∧ i = .int .i64 k ∧ v = .int .u32 (x : Int) ∧ x < 4294967296 ∧ Hid (x = upd 4294967295 (allOf (l.take k)))) (fun _ i => l.length - (RowKit.intOf i).toNat)
 case atStart => exact ⟨0, 4294967295, Nat.zero_le _, rfl, rfl, by decide, rfl⟩
 case round =>
  obtain ⟨k, x, hk, rfl, rfl, hx, hxe⟩ := hrel
  by_cases hlt : k < l.length
  ·obtain ⟨b, off, rfl, hb, hcc⟩ := hc (by omega)
   have hcell := hcc k hlt
   have hT := Lib.hid (allOf_take hlt)
   have hsz := hz k hlt
   generalize l[k] = s at hcell hT hsz
   clear hcc hc hz
   go_wp2
   go_loop [3, 15] (fun v i => ∃ j y : Nat, j ≤ s.size ∧ i = .int .i64 j ∧ v = .int .u32 (y : Int) ∧ y < 4294967296 ∧ Hid (y = upd x (s.data.toList.take j))) (fun _ i => s.size - (RowKit.intOf i).toNat)
   case atStart => exact ⟨0, x, Nat.zero_le _, rfl, rfl, hx, rfl⟩
   case round =>
    obtain ⟨j, y, hj, rfl, rfl, hy, hye⟩ := hrel
    by_cases hjt : j < s.size
    ·have hxc := xor_code hy s[j]
     have HS := fun w' => Lib.hid (step_any w' _ (xor_byte_lt hy s[j]))
     have hN := Lib.hid (bitN_lt (xor_byte_lt hy s[j]) 8)
     have hU : Hid (bitN 8 (y ^^^ s[j].toNat) = upd x (s.data.toList.take (j + 1))) := by
      show _ = _
      rw [bytes_take hjt, upd_snoc, hye.out]
     generalize hz : y ^^^ s[j].toNat = z at hxc HS hN hU
     generalize bitN 8 z = q at HS hN hU
     clear hz hye hxe hT hcell
     go_wp2_with (go_at_call 190; refine (HS _).out.mono ?_; rintro e w1 ⟨rfl, rfl⟩)
     go_round
     case rel => exact ⟨j + 1, q, by omega, by go_num, rfl, hN.out, hU⟩
     case measure => simp [RowKit.intOf]; omega
    ·have hU : Hid (y = upd 4294967295 (allOf (l.take (k + 1)))) := by
      show _ = _
      rw [hT.out, upd_append, ← hxe.out, hye.out, List.take_of_length_le (by simp; omega)]
     clear hye hxe hT hcell
     go_wp2
     go_round
     case rel => exact ⟨k + 1, y, by omega, by go_num, rfl, hy, hU⟩
     case measure => simp [RowKit.intOf]; omega
  ·have hU : Hid (((4294967295 ^^^ x : Nat) : Int) = (crc (allOf l) : Int)) := by
    show _ = _
    rw [hxe.out, List.take_of_length_le (by omega)]; rfl
   have hf := fin_code hx
   go_wp2
   go_ret
   exact ⟨by rw [← hU.out]; rfl, rfl⟩
theorem upd_byte {s : ByteArray} {j x y : Nat} (h : j < s.size) (hy : y = upd x (s.data.toList.take j)) : bitN 8 (y ^^^ s[j].toNat) = upd x (s.data.toList.take (j + 1)) := by
 rw [bytes_take h, upd_snoc, hy]
theorem bit_odd {y : Nat} (h : y % 2 = 1) (hy : y < 4294967296) : bits .xor .u32 ((y : Int) / 2) 2197175160 = (bit1 y : Int) := by
 have e0 : ((y : Int) / 2) = ((y / 2 : Nat) : Int) := by omega
 rw [e0, bit1, if_pos h]
 exact u32_xor_nat (y / 2) 2197175160 (by omega) (by decide)
theorem bit_even {y : Nat} (h : ¬ y % 2 = 1) : ((y : Int) / 2) = (bit1 y : Int) := by
 rw [bit1, if_neg h]; omega
theorem rSum_any (w : World) (s : ByteArray) (hs : s.size ≤ 9223372036854775807) :
  Calls Tryz.prog 126 #[.string s] w fun r w' => r = .returned (.int .u32 (crc s.data.toList)) ∧ w = w' := by
 go_enter Tryz.func126, Tryz.ntmps126
 go_wp2
 go_loop [3, 4] (fun v i => ∃ j x : Nat, j ≤ s.size ∧ i = .int .i64 j ∧ v = .int .u32 (x : Int) ∧ x < 4294967296 ∧ Hid (x = upd 4294967295 (s.data.toList.take j))) (fun _ i => s.size - (RowKit.intOf i).toNat)
 case atStart => exact ⟨0, 4294967295, Nat.zero_le _, rfl, rfl, by decide, rfl⟩
 case round =>
  obtain ⟨j, x, hj, rfl, rfl, hx, hxe⟩ := hrel
  by_cases hjt : j < s.size
  ·have hxc := xor_code hx s[j]
   have hzl := xor_byte_lt hx s[j]
   have hU := upd_byte hjt hxe.out
   generalize hz : x ^^^ s[j].toNat = z at hxc hzl hU
   have HU := Lib.hid hU
   clear hz hxe hU
   go_wp2
   go_loop [3, 5] (fun v i => ∃ k y : Nat, k ≤ 8 ∧ i = .int .i64 k ∧ v = .int .u32 (y : Int) ∧ y < 4294967296 ∧ Hid (y = bitN k z)) (fun _ i => 8 - (RowKit.intOf i).toNat)
   case atStart => exact ⟨0, z, by omega, rfl, rfl, hzl, rfl⟩
   case round =>
    obtain ⟨k, y, hk, rfl, rfl, hy, hye⟩ := hrel
    by_cases h8 : k < 8
    ·have hl := Lib.hid (bit1_lt hy)
     have hb : Hid (bit1 y = bitN (k + 1) z) := by show _ = _; rw [hye.out]; rfl
     by_cases hodd : y % 2 = 1
     ·have h1 := Lib.hid (bit_odd hodd hy)
      have ho : (((y : Int) % 2) == 1) = true := by simp; omega
      clear hodd
      go_wp2
      go_round
      case rel => exact ⟨k + 1, bit1 y, by omega, by go_num, congrArg _ h1.out, hl.out, hb⟩
      case measure => simp [RowKit.intOf]; omega
     ·have h1 := Lib.hid (bit_even hodd)
      have ho : (((y : Int) % 2) == 1) = false := by simp; omega
      clear hodd
      go_wp2
      go_round
      case rel => exact ⟨k + 1, bit1 y, by omega, by go_num, congrArg _ h1.out, hl.out, hb⟩
      case measure => simp [RowKit.intOf]; omega
    ·have hk8 : k = 8 := by omega
     have hb : Hid (y = upd 4294967295 (s.data.toList.take (j + 1))) := by show _ = _; rw [hye.out, hk8]; exact HU.out
     clear hk8
     go_wp2
     go_round
     case rel => exact ⟨j + 1, y, by omega, by go_num, rfl, hy, hb⟩
     case measure => simp [RowKit.intOf]; omega
  ·have hU : Hid (((4294967295 ^^^ x : Nat) : Int) = (crc s.data.toList : Int)) := by
    show _ = _
    rw [hxe.out, List.take_of_length_le (by simp; omega)]; rfl
   have hf := fin_code hx
   go_wp2
   go_ret
   exact ⟨by rw [← hU.out]; rfl, rfl⟩
theorem crc_lt' (l : List UInt8) : crc l < 4294967296 := crc_lt l
theorem four_string (w : World) (x : Nat) :
  (convert 141 9 (.slice (some ⟨w.heap.size, 0, none⟩) 4 4)).run Tryz.prog (w.alloc (.cells #[.int .u8 ((x : Int) % 256), .int .u8 ((x : Int) / 256 % 256), .int .u8 ((x : Int) / 65536 % 256), .int .u8 ((x : Int) / 16777216 % 256)] 5)) =
   .ok (.string (str (low 4 x))) (w.alloc (.cells #[.int .u8 ((x : Int) % 256), .int .u8 ((x : Int) / 256 % 256), .int .u8 ((x : Int) / 65536 % 256), .int .u8 ((x : Int) / 16777216 % 256)] 5)) := by
 have hl : low 4 x = [UInt8.ofNat x, UInt8.ofNat (x / 256), UInt8.ofNat (x / 65536), UInt8.ofNat (x / 16777216)] := by
  simp [low, List.range, List.range.loop]
 have e : ∀ n : Nat, ((n : Int) % 256) = (((UInt8.ofNat n).toNat : Nat) : Int) := fun n => by rw [UInt8.toNat_ofNat']; omega
 rw [hl]
 refine run_convert_bytes_back _ 141 9 5 ⟨w.heap.size, 0, none⟩ 4 [UInt8.ofNat x, UInt8.ofNat (x / 256), UInt8.ofNat (x / 65536), UInt8.ofNat (x / 16777216)] Tryz.underlying141 Tryz.underlying5 Tryz.underlying9 (fun j hj => ?_)
 rw [show (⟨w.heap.size, 0, none⟩ : Addr).add j = ⟨w.heap.size, j, none⟩ by rw [Go.WideShapes.add_plain, Nat.zero_add], cell_at (new_at w _ _)]
 have e1 := e x
 have e2 := e (x / 256)
 have e3 := e (x / 65536)
 have e4 := e (x / 16777216)
 simp only [Int.natCast_ediv, Int.cast_ofNat_Int] at e2 e3 e4
 rw [e1, e2, e3, e4]
 match j, hj with
 | 0, _ => rfl
 | 1, _ => rfl
 | 2, _ => rfl
 | 3, _ => rfl
 | n + 4, h => exact absurd h (by simp)
theorem tail_any (w : World) (s : ByteArray) (hs : s.size ≤ 9223372036854775807) :
  Calls Tryz.prog 150 #[.string s] w fun r w' => r = .returned (.string (str (low 4 (crc s.data.toList)))) ∧ Below w.heap.size w w' := by
 have hT := TextsIn.new w [s] 1 (by simp) (fun i h => by
  obtain rfl : i = 0 := by simpa using h
  exact hs)
 have H := of_any _ _ _ hT
 rw [show allOf [s] = s.data.toList by simp [allOf]] at H
 have hlt := crc_lt' s.data.toList
 generalize crc s.data.toList = x at H hlt
 have HF := four_string (w.alloc (.cells #[.string s] 9)) x
 rw [show (x : Int) / 16777216 % 256 = (x : Int) / 16777216 by omega, show (w.alloc (.cells #[.string s] 9)).heap.size = w.heap.size + 1 by simp] at HF
 generalize str (low 4 x) = z at HF
 have HH := Lib.hid H
 have hB := Lib.hid (((Below.refl _ w).alloc (Nat.le_refl _) (.cells #[.string s] 9)).alloc (by simp) (.cells #[.int .u8 ((x : Int) % 256), .int .u8 ((x : Int) / 256 % 256), .int .u8 ((x : Int) / 65536 % 256), .int .u8 ((x : Int) / 16777216)] 5))
 clear H hT
 go_enter Tryz.func150, Tryz.ntmps150
 go_wp2_with (go_at_call 177; refine HH.out.mono ?_; rintro e w1 ⟨rfl, rfl⟩)
 go_ret
 exact ⟨rfl, hB.out⟩
def tailOf (s : ByteArray) : ByteArray := str (low 4 (crc s.data.toList))
def sealOf (s : ByteArray) : ByteArray := s ++ tailOf s
theorem tail_size (s : ByteArray) : (tailOf s).size = 4 := by rw [tailOf, str_size, low_length]
theorem seal_size (s : ByteArray) : (sealOf s).size = s.size + 4 := by rw [sealOf, size_app, tail_size]
theorem seal_any (w : World) (s : ByteArray) (hs : s.size ≤ 1000000) :
  Calls Tryz.prog 125 #[.string s] w fun r w' => r = .returned (.string (sealOf s)) ∧ Below w.heap.size w w' := by
 have H := Lib.hid (show Calls Tryz.prog 150 #[.string s] w fun r w' => r = .returned (.string (tailOf s)) ∧ Below w.heap.size w w' from tail_any w s (by omega))
 have hz := tail_size s
 have e : sealOf s = s ++ tailOf s := rfl
 rw [e]
 generalize tailOf s = z at H hz
 clear e
 go_enter Tryz.func125, Tryz.ntmps125
 go_wp2_with (go_at_call 150; refine H.out.mono ?_; rintro e w1 ⟨rfl, hb⟩)
 go_ret
 exact ⟨rfl, hb⟩
theorem rSeal_any (w : World) (s : ByteArray) (hs : s.size ≤ 1000000) :
  Calls Tryz.prog 88 #[.string s] w fun r w' => r = .returned (.string (sealOf s)) ∧ Below w.heap.size w w' := by
 have H1 := rSum_any w s (by omega)
 have hlt := crc_lt s.data.toList
 have hz := tail_size s
 have e : sealOf s = s ++ tailOf s := rfl
 rw [e]
 have H2 := rLow_any w (crc s.data.toList) 4 (by omega) (by omega)
 rw [show str (low 4 (crc s.data.toList)) = tailOf s from rfl] at H2
 generalize tailOf s = z at H2 hz
 generalize crc s.data.toList = x at H1 H2 hlt
 have HH1 := Lib.hid H1
 have HH2 := Lib.hid H2
 clear e H1 H2
 go_enter Tryz.func88, Tryz.ntmps88
 go_wp2_with (first
  | (go_at_call 126; refine HH1.out.mono ?_; rintro e w1 ⟨rfl, rfl⟩)
  | (go_at_call 87; refine HH2.out.mono ?_; rintro e w2 ⟨rfl, hb⟩))
 go_ret
 exact ⟨rfl, hb⟩
end Go.Proofs.YtbkngnjkaledlaaGreat.P2
namespace Go.Proofs.YtbkngnjkaledlaaGreat.P5
open Go Go.RowKit Go.Lib P0 P2
structure Pg where
 k : Int
 id : Int
 tx : Int
 body : ByteArray
def Pg.v (p : Pg) : Value := .agg #[.int .i64 p.k, .int .i64 p.id, .int .i64 p.tx, .string p.body]
def Pg.zero : Pg := ⟨0, 0, 0, ⟨#[]⟩⟩
def Pg.ok (p : Pg) : Prop := 1 ≤ p.k ∧ p.k ≤ 5 ∧ 0 ≤ p.id ∧ p.id < 4000 ∧ 0 ≤ p.tx ∧ p.tx ≤ 1099511627776 ∧ p.body.size ≤ 232
instance (p : Pg) : Decidable p.ok := by unfold Pg.ok; infer_instance
def fore (k n id tx : Nat) (body : List UInt8) : List UInt8 := low 1 k ++ (low 1 n ++ (low 2 id ++ (low 4 tx ++ (low 8 tx ++ (body ++ List.replicate (232 - n) 0)))))
def Pg.fore (p : Pg) : List UInt8 := P5.fore p.k.toNat p.body.size p.id.toNat p.tx.toNat p.body.data.toList
def Pg.laid (p : Pg) : List UInt8 := p.fore ++ (low 4 (crc p.fore) ++ low 4 p.tx.toNat)
def Pg.sector (p : Pg) : ByteArray := str p.laid
theorem fore_length {k n id tx : Nat} {body : List UInt8} (h : body.length = n) (hn : n ≤ 232) : (fore k n id tx body).length = 248 := by
 simp only [P5.fore, List.length_append, low_length, List.length_replicate]
 omega
theorem Pg.fore_len {p : Pg} (h : p.ok) : p.fore.length = 248 := fore_length (text_len _) h.2.2.2.2.2.2
theorem Pg.laid_len {p : Pg} (h : p.ok) : p.laid.length = 256 := by
 simp only [Pg.laid, List.length_append, low_length, p.fore_len h]
theorem Pg.sector_size {p : Pg} (h : p.ok) : p.sector.size = 256 := by rw [Pg.sector, str_size, p.laid_len h]
theorem ofNat_eq {n m : Nat} (h : n % 256 = m % 256) : UInt8.ofNat n = UInt8.ofNat m := by
 apply UInt8.toNat_inj.1
 rw [UInt8.toNat_ofNat', UInt8.toNat_ofNat']
 exact h
theorem ofNat_toNat {n : Nat} (h : n < 256) : (UInt8.ofNat n).toNat = n := by rw [UInt8.toNat_ofNat']; omega
theorem low_mod4 (x : Nat) : low 4 (x % 4294967296) = low 4 x := by
 have hl : ∀ x, low 4 x = [UInt8.ofNat x, UInt8.ofNat (x / 256), UInt8.ofNat (x / 65536), UInt8.ofNat (x / 16777216)] := fun x => by simp [low, List.range, List.range.loop]
 rw [hl, hl]
 simp only [List.cons.injEq, and_true]
 exact ⟨ofNat_eq (by omega), ofNat_eq (by omega), ofNat_eq (by omega), ofNat_eq (by omega)⟩
def num : List UInt8 → Nat
 | [] => 0
 | c :: r => c.toNat + 256 * num r
theorem num_lt : ∀ xs : List UInt8, num xs < 256 ^ xs.length
 | [] => by simp [num]
 | c :: r => by
  have := num_lt r
  have h1 := c.toNat_lt
  simp only [num, List.length_cons, Nat.pow_succ]
  omega
theorem low_step (n v : Nat) : low (n + 1) v = UInt8.ofNat v :: low n (v / 256) := by
 have e : ∀ i, v / 256 / 256 ^ i = v / 256 ^ (i + 1) := fun i => by rw [Nat.div_div_eq_div_mul, Nat.pow_succ, Nat.mul_comm]
 simp only [low, List.range_succ_eq_map, List.map_cons, List.map_map, Nat.pow_zero, Nat.div_one]
 congr 1
 apply List.map_congr_left
 intro i _
 simp only [Function.comp, Nat.succ_eq_add_one, e]
theorem num_low : ∀ (n v : Nat), v < 256 ^ n → num (low n v) = v
 | 0, v, h => by simp at h; subst h; rfl
 | n + 1, v, h => by
  rw [low_step, num, num_low n (v / 256) (by rw [Nat.pow_succ] at h; omega), UInt8.toNat_ofNat']
  omega
def kOf (l : List UInt8) : Nat := (l.getD 0 0).toNat
def nOf (l : List UInt8) : Nat := (l.getD 1 0).toNat
def idOf (l : List UInt8) : Int := wrap64 (num ((l.drop 2).take 2))
def txOf (l : List UInt8) : Int := wrap64 (num ((l.drop 8).take 8))
def Pg.of (b : ByteArray) : Pg := ⟨kOf b.data.toList, idOf b.data.toList, txOf b.data.toList, b.extract 16 (16 + nOf b.data.toList)⟩
theorem low1 (x : Nat) : low 1 x = [UInt8.ofNat x] := by simp [low, List.range, List.range.loop]
theorem low2 (x : Nat) : low 2 x = [UInt8.ofNat x, UInt8.ofNat (x / 256)] := by simp [low, List.range, List.range.loop]
theorem low_four (x : Nat) : ∃ a b c d, low 4 x = [a, b, c, d] := ⟨_, _, _, _, rfl⟩
theorem low_eight (x : Nat) : ∃ a b c d e f g h, low 8 x = [a, b, c, d, e, f, g, h] := ⟨_, _, _, _, _, _, _, _, rfl⟩
theorem wrap_small {n : Nat} (h : n < 9223372036854775808) : wrap64 (n : Int) = n := by
 unfold wrap64
 omega
theorem of_sector {p : Pg} (h : p.ok) : Pg.of p.sector = p := by
 obtain ⟨k, id, tx, body⟩ := p
 obtain ⟨h1, h2, h3, h4, h5, h6, h7⟩ := h
 simp only at h1 h2 h3 h4 h5 h6 h7
 obtain ⟨k, rfl⟩ := Int.eq_ofNat_of_zero_le (show 0 ≤ k by omega)
 obtain ⟨id, rfl⟩ := Int.eq_ofNat_of_zero_le h3
 obtain ⟨tx, rfl⟩ := Int.eq_ofNat_of_zero_le h5
 have eT : ∀ r, (body.data.toList ++ r).take body.size = body.data.toList := fun r => by rw [← text_len body, List.take_left]
 have e2 : num (low 2 id) = id := num_low 2 id (by omega)
 have e8 : num (low 8 tx) = tx := num_low 8 tx (by omega)
 obtain ⟨a, b, c, d, e4⟩ := low_four tx
 obtain ⟨i0, i1, i2, i3, i4, i5, i6, i7, e9⟩ := low_eight tx
 have eL : (Pg.mk k id tx body).laid = UInt8.ofNat k :: UInt8.ofNat body.size :: UInt8.ofNat id :: UInt8.ofNat (id / 256) :: a :: b :: c :: d :: i0 :: i1 :: i2 :: i3 :: i4 :: i5 :: i6 :: i7 :: (body.data.toList ++ (List.replicate (232 - body.size) 0 ++ (low 4 (crc (Pg.mk k id tx body).fore) ++ low 4 tx))) := by
  simp only [Pg.laid, Pg.fore, P5.fore, Int.toNat_natCast, low1, low2, e4, e9, List.cons_append, List.nil_append, List.append_assoc]
 rw [e9] at e8
 rw [low2] at e2
 generalize (Pg.mk k id tx body).fore = F at eL
 unfold Pg.of
 have hl : (Pg.mk k id tx body).sector.data.toList = (Pg.mk k id tx body).laid := str_list _
 have hx : (Pg.mk k id tx body).sector.extract 16 (16 + nOf (Pg.mk k id tx body).laid) = body := by
  apply text_ext
  rw [Lib.extract_data, hl, eL]
  have : nOf (UInt8.ofNat k :: UInt8.ofNat body.size :: UInt8.ofNat id :: UInt8.ofNat (id / 256) :: a :: b :: c :: d :: i0 :: i1 :: i2 :: i3 :: i4 :: i5 :: i6 :: i7 :: (body.data.toList ++ (List.replicate (232 - body.size) 0 ++ (low 4 (crc F) ++ low 4 tx)))) = body.size := ofNat_toNat (by omega)
  rw [this, show 16 + body.size - 16 = body.size by omega]
  exact eT _
 rw [hl, hx]
 have hk : kOf (Pg.mk k id tx body).laid = k := by rw [eL]; exact ofNat_toNat (by omega)
 have hi : idOf (Pg.mk k id tx body).laid = id := by rw [eL]; show wrap64 (num [UInt8.ofNat id, UInt8.ofNat (id / 256)] : Nat) = _; rw [e2]; exact wrap_small (by omega)
 have ht : txOf (Pg.mk k id tx body).laid = tx := by rw [eL]; show wrap64 (num [i0, i1, i2, i3, i4, i5, i6, i7] : Nat) = _; rw [e8]; exact wrap_small (by omega)
 rw [hk, hi, ht]
def readP (b : ByteArray) : Pg := if b.size = 256 ∧ (Pg.of b).ok ∧ b = (Pg.of b).sector then Pg.of b else Pg.zero
def readE (b : ByteArray) : Int :=
 if b.size = 256 then (if nOf b.data.toList ≤ 232 ∧ (Pg.of b).ok ∧ b.extract 0 248 = (Pg.of b).sector.extract 0 248 ∧ b.extract 252 b.size = (Pg.of b).sector.extract 252 (Pg.of b).sector.size then (if b = (Pg.of b).sector then 0 else 7) else 6) else 5
theorem read_yes {p : Pg} (h : p.ok) : readP p.sector = p ∧ readE p.sector = 0 := by
 have hs := p.sector_size h
 have hn : nOf p.sector.data.toList ≤ 232 := by
  have e := congrArg Pg.body (of_sector h)
  have e := congrArg ByteArray.size e
  simp only [Pg.of, ByteArray.size_extract, hs] at e
  have := h.2.2.2.2.2.2
  omega
 unfold readP readE
 rw [of_sector h, if_pos hs, if_pos ⟨hs, h, rfl⟩, if_pos ⟨hn, h, rfl, rfl⟩, if_pos rfl]
 exact ⟨rfl, rfl⟩
theorem laid_parts (p : Pg) (h : p.ok) : ∃ A M : List UInt8, A.length = 4 ∧ M.length = 240 ∧ p.fore = A ++ (low 4 p.tx.toNat ++ M) ∧ p.laid = A ++ (low 4 p.tx.toNat ++ (M ++ (low 4 (crc (A ++ (low 4 p.tx.toNat ++ M))) ++ low 4 p.tx.toNat))) := by
 refine ⟨low 1 p.k.toNat ++ (low 1 p.body.size ++ low 2 p.id.toNat), low 8 p.tx.toNat ++ (p.body.data.toList ++ List.replicate (232 - p.body.size) 0), ?_, ?_, ?_, ?_⟩
 ·simp only [List.length_append, low_length]
 ·have := h.2.2.2.2.2.2
  simp only [List.length_append, low_length, List.length_replicate, text_len]
  omega
 ·simp only [Pg.fore, P5.fore, List.append_assoc]
 ·simp only [Pg.laid, Pg.fore, P5.fore, List.append_assoc]
end Go.Proofs.YtbkngnjkaledlaaGreat.P5
namespace Go.Proofs.YtbkngnjkaledlaaGreat.P5
open Go Go.RowKit Go.Lib P0
def PutOwn (w : World) (b : Nat) (xs : List UInt8) (bad : Int) : Prop :=
 ∃ v, w.heap[b]? = some (.cells #[v, .pointer (some ⟨b, 0, none⟩), .int .i64 bad] 169 (0, 0)) ∧ w.ownsRow (b + 1) 5 1 v xs.length (cells xs)
def PutNew (w : World) (b : Nat) (bad : Int) : Prop :=
 w.heap[b]? = some (.cells #[.slice none 0 0, .pointer none, .int .i64 bad] 169 (0, 0))
def PutIs (w : World) (b : Nat) (xs : List UInt8) (bad : Int) : Prop :=
 PutOwn w b xs bad ∨ (PutNew w b bad ∧ xs = [])
theorem PutOwn.lt {w : World} {b : Nat} {xs : List UInt8} {bad : Int} (h : PutOwn w b xs bad) : b < w.heap.size := by
 obtain ⟨v, hb, _⟩ := h; exact lt_of_block hb
theorem PutOwn.below {w w' : World} {b : Nat} {xs : List UInt8} {bad : Int} (h : PutOwn w b xs bad) (hb : Below w.heap.size w w') : PutOwn w' b xs bad := by
 have hl := h.lt
 obtain ⟨v, h1, h2⟩ := h
 exact ⟨v, by rw [hb.block b hl]; exact h1, owns_below h2 hb⟩
theorem PutIs.below {w w' : World} {b : Nat} {xs : List UInt8} {bad : Int} (h : PutIs w b xs bad) (hb : Below w.heap.size w w') : PutIs w' b xs bad := by
 rcases h with h | ⟨h, e⟩
 ·exact .inl (h.below hb)
 ·exact .inr ⟨by unfold PutNew at *; rw [hb.block b (lt_of_block h)]; exact h, e⟩
structure Fr (b : Nat) (w w' : World) : Prop where
 below : Below b w w'
 keeps : ∀ (k : Nat) (c : Array Value) (t : TypeId) (f : Nat × Nat), w.heap[k]? = some (.cells c t f) → t ≠ 5 → k ≠ b → w'.heap[k]? = some (.cells c t f)
theorem Fr.refl (b : Nat) (w : World) : Fr b w w := ⟨Below.refl _ _, fun _ _ _ _ h _ _ => h⟩
theorem Fr.trans {b : Nat} {a w w' : World} (h : Fr b a w) (k : Fr b w w') : Fr b a w' :=
 ⟨h.below.trans k.below, fun i c t f h1 h2 h3 => k.keeps i c t f (h.keeps i c t f h1 h2 h3) h2 h3⟩
theorem Fr.setCell {b : Nat} {a w : World} (h : Fr b a w) (j : Nat) (u : Value) : Fr b a (w.setCell ⟨b, j, none⟩ u) :=
 h.trans ⟨(Below.refl b w).setCell (Nat.le_refl _) u, fun i c t f h1 _ h3 => by rw [Below.heap_setCell _ _ _ _ h3]; exact h1⟩
theorem Fr.alloc {b : Nat} {a w : World} (h : Fr b a w) (hb : b ≤ w.heap.size) (o : Obj) : Fr b a (w.alloc o) :=
 h.trans ⟨(Below.refl b w).alloc hb o, fun i c t f h1 _ _ => by rw [Below.heap_alloc _ _ _ (lt_of_block h1)]; exact h1⟩
theorem Fr.grown {b base n : Nat} {a w w' : World} {v : Value} {xs : List Value} (h : Fr b a w) (hlt : b < w.heap.size) (h2 : w.ownsRow base 5 1 v n xs) (hbase : b < base) (hg : w.grownBy w' v.ownBlock) : Fr b a w' := by
 refine h.trans ⟨(Below.refl b w).grown hg (Nat.le_of_lt hlt) (fun k hk => by have := (h2.lt k hk).1; omega), fun i c t f h1 h3 _ => ?_⟩
 rw [hg.block i (lt_of_block h1) (fun e => ?_)]
 ·exact h1
 ·rcases h2.2 with ⟨rfl, _⟩ | ⟨g, cap, cur, rfl, _, hgg, _⟩
  ·simp [Value.ownBlock] at e
  ·simp [Value.ownBlock] at e
   subst e
   rw [hgg] at h1
   simp only [Option.some.injEq, Obj.cells.injEq] at h1
   exact h3 h1.2.1.symm
theorem run_neq_nil_ptr {P : Program} (w : World) {tp te : TypeId} (a : Addr) (hp : P.underlying tp = some (.pointer te)) :
  (binOp .neq tp (.pointer none) (.pointer (some a))).run P w = .ok (.bool true) w := by
 have h : ∀ d : Nat, (Op.equalIn (d + 1) tp (.pointer none) (.pointer (some a))).run P w = .ok false w := fun d => by
  simp [Op.equalIn, run_underlying hp]
 simp only [binOp]
 simp [Op.equal, Op.maxDepth, h 9999]
theorem infoPut : (Tryz.prog.info? 169).isSome = true := by kernel_rfl
theorem clone_nil (w : World) :
  Calls Tryz.prog 176 #[.slice none 0 0] w fun r w' => r = .returned (.slice none 0 0) ∧ w = w' := by
 have k := Lib.run_eql_slice_nil (P := Tryz.prog) w 141 5 none 0 0 0 0 Tryz.underlying141
 go_enter Tryz.func176, Tryz.ntmps176
 go_wp2
 go_ret
 exact ⟨rfl, rfl⟩
theorem ready_ok (w : World) (b : Nat) (xs : List UInt8) (h : PutIs w b xs 0) :
  Calls Tryz.prog 149 #[.pointer (some ⟨b, 0, none⟩)] w fun r w' => r = .returned (.bool true) ∧ PutOwn w' b xs 0 ∧ Fr b w w' := by
 rcases h with h | ⟨h, rfl⟩
 ·have ho := h
  obtain ⟨v, h1, h2⟩ := h
  have c1 : w.cell? ⟨b, 1, none⟩ = some (.pointer (some ⟨b, 0, none⟩)) := by rw [cell_at h1]; rfl
  have c2 : w.cell? ⟨b, 2, none⟩ = some (.int .i64 0) := by rw [cell_at h1]; rfl
  clear h1 h2
  obtain ⟨j, hj⟩ := Option.isSome_iff_exists.1 infoPut
  have k := run_neq_ptr_same w ⟨b, 0, none⟩ Tryz.underlying167 hj
  clear hj
  go_enter Tryz.func149, Tryz.ntmps149
  go_wp2
  go_ret
  exact ⟨rfl, ho, Fr.refl _ _⟩
 ·have c0 : w.cell? ⟨b, 0, none⟩ = some (.slice none 0 0) := by rw [cell_at h]; rfl
  have c1 : w.cell? ⟨b, 1, none⟩ = some (.pointer none) := by rw [cell_at h]; rfl
  have c2 : w.cell? ⟨b, 2, none⟩ = some (.int .i64 0) := by rw [cell_at h]; rfl
  have f0 : w.frozen? ⟨b, 0, none⟩ = false := free_at h 0
  have f1 : w.frozen? ⟨b, 1, none⟩ = false := free_at h 1
  have s0 := set_at h 0 (.slice none 0 0)
  have s1 := set_at s0 1 (.pointer (some ⟨b, 0, none⟩))
  have f1' : (w.setCell ⟨b, 0, none⟩ (.slice none 0 0)).frozen? ⟨b, 1, none⟩ = false := free_at s0 1
  have c1' : (w.setCell ⟨b, 0, none⟩ (.slice none 0 0)).cell? ⟨b, 1, none⟩ = some (.pointer none) := by rw [cell_at s0]; rfl
  have ho : PutOwn ((w.setCell ⟨b, 0, none⟩ (.slice none 0 0)).setCell ⟨b, 1, none⟩ (.pointer (some ⟨b, 0, none⟩))) b [] 0 := ⟨.slice none 0 0, by rw [s1]; rfl, World.ownsRow_nil _ _ _ _⟩
  have hB : Fr b w ((w.setCell ⟨b, 0, none⟩ (.slice none 0 0)).setCell ⟨b, 1, none⟩ (.pointer (some ⟨b, 0, none⟩))) := ((Fr.refl b w).setCell _ _).setCell _ _
  clear h s0 s1
  have k := run_neq_nil_ptr (P := Tryz.prog) w ⟨b, 0, none⟩ Tryz.underlying167
  go_enter Tryz.func149, Tryz.ntmps149
  go_wp2_with (go_at_call 176; refine (clone_nil _).mono ?_; rintro e w' ⟨rfl, rfl⟩)
  go_ret
  exact ⟨rfl, ho, hB⟩
theorem put_block {wr w' : World} {b base e : Nat} {v : Value} {n : Nat} {xs : List Value} {c : Obj} (h1 : wr.heap[b]? = some c) (h2 : wr.ownsRow base e 1 v n xs) (hbase : b < base) (hg : wr.grownBy w' v.ownBlock) : w'.heap[b]? = some c := by
 rw [hg.block b (Array.getElem?_eq_some_iff.1 h1).1 (fun e => by have := (h2.lt b e.symm).1; omega)]; exact h1
theorem put_stored {w : World} {b : Nat} {v v' : Value} {bad : Int} {ys : List UInt8} (h1 : w.heap[b]? = some (.cells #[v, .pointer (some ⟨b, 0, none⟩), .int .i64 bad] 169 (0, 0))) (h2 : w.ownsRow (b + 1) 5 1 v' ys.length (cells ys)) :
  PutOwn (w.setCell ⟨b, 0, none⟩ v') b ys bad := ⟨v', by rw [set_at h1]; rfl, ownsRow_setCell_below h2 (by simp) _⟩
theorem number_ok (w : World) (b : Nat) (xs : List UInt8) (n size : Nat) (hn : n < 18446744073709551616) (hs : size ≤ 8) (hx : xs.length ≤ 140737488355000) (h : PutIs w b xs 0) :
  Calls Tryz.prog 148 #[.pointer (some ⟨b, 0, none⟩), .int .u64 n, .int .i64 size] w fun r w' => r = .returned (.pointer (some ⟨b, 0, none⟩)) ∧ PutOwn w' b (xs ++ low size n) 0 ∧ Fr b w w' := by
 obtain ⟨i0, hi, hz0, hz1, hz2⟩ := info_parts infoByte
 go_enter Tryz.func148, Tryz.ntmps148
 go_wp2_with (go_at_call 149; refine (ready_ok _ b xs h).mono ?_; rintro e w1 ⟨rfl, ho, hb⟩)
 go_loopw [1, 10] (fun v i wr => ∃ k x : Nat, k ≤ size ∧ i = .int .i64 k ∧ v = .int .u64 (x : Int) ∧ Hid (x = n / 256 ^ k) ∧ x < 18446744073709551616 ∧ PutOwn wr b (xs ++ low k n) 0 ∧ Fr b w wr) (fun _ i _ => size - (intOf i).toNat)
 case atStart => exact ⟨0, n, Nat.zero_le _, rfl, rfl, (by simp : n = n / 256 ^ 0), hn, by simpa [low_zero] using ho, hb⟩
 case round =>
  obtain ⟨k, x, hk, rfl, rfl, hxe, hxl, hown, hbel⟩ := hrel
  have hlt := hown.lt
  obtain ⟨v, h1, h2⟩ := hown
  have hll : (xs ++ low k n).length ≤ 140737488355100 := by simp [low_length]; omega
  have H1 := Lib.hid h1
  have c0 : wr.cell? ⟨b, 0, none⟩ = some v := by rw [cell_at h1]; rfl
  clear h1
  by_cases hks : k < size
  ·go_wp2_with (at_builtin; refine wpList_append_own _ rfl _ _ 141 rfl (b + 1) 5 i0 (.int .u8 0) 1 1 Tryz.underlying141 hi hz0 hz1 hz2 rfl (by decide) _ _ _ rfl (h2.alloc _) ⟨wr.heap.size, 0, none⟩ 1 1 [.int .u8 ((x : Int) % 256)] rfl rfl ?c1 ?c2 ?c3 ?c4 ?c5 ?_)
   case c1 => exact cell_one_new _ _ _
   case c2 => intro u hu; simp at hu; subst hu; rfl
   case c3 => unfold maxLen; omega
   case c4 => omega
   case c5 => simp; omega
   intro v' w2 hown' hgrow _
   obtain ⟨sa, sn, sc, rfl⟩ := owns_shape hown'
   have ha1 := (show (wr.alloc (.cells #[.int .u8 ((x : Int) % 256)] 5)).heap[b]? = _ from (Below.heap_alloc wr _ b hlt).trans H1.out)
   have hblk := put_block ha1 (h2.alloc _) (by omega) hgrow
   have hb2 : Fr b w w2 := (hbel.alloc (by omega) _).grown (by simp; omega) (h2.alloc _) (by omega) hgrow
   have hys : w2.ownsRow (b + 1) 5 1 (.slice sa sn sc) (xs ++ low (k + 1) n).length (cells (xs ++ low (k + 1) n)) := by
    have e1 : xs ++ low (k + 1) n = (xs ++ low k n) ++ [UInt8.ofNat x] := by rw [low_succ, hxe.out, List.append_assoc]
    rw [e1, cells_snoc, List.length_append, List.length_append]; exact hown'
   have hst := put_stored hblk hys
   have c0' : w2.cell? ⟨b, 0, none⟩ = some v := by rw [cell_at hblk]; rfl
   have f0' : w2.frozen? ⟨b, 0, none⟩ = false := free_at hblk 0
   have hb3 : Fr b w (w2.setCell ⟨b, 0, none⟩ (.slice sa sn sc)) := hb2.setCell _ _
   have hxe' : Hid (x / 256 = n / 256 ^ (k + 1)) := div_step hxe.out
   have hx8 : x / 256 < 18446744073709551616 := by omega
   clear ha1 hblk hb2 hys hown' hgrow c0 h2 hll
   go_wp2
   go_roundw
   case rel => exact ⟨k + 1, x / 256, by omega, by go_num, by go_num, hxe', hx8, hst, hb3⟩
   case measure => simp [intOf]; omega
  ·go_wp2
   go_ret
   obtain rfl : k = size := by omega
   exact ⟨rfl, ⟨v, H1.out, h2⟩, hbel⟩
theorem narrow_fits_1 (w : World) (b : Nat) (xs : List UInt8) (v : Nat) (hv : v < 256) (hx : xs.length ≤ 140737488355000) (h : PutIs w b xs 0) :
  Calls Tryz.prog 147 #[.pointer (some ⟨b, 0, none⟩), .int .i64 v, .int .i64 1] w fun r w' => r = .returned (.pointer (some ⟨b, 0, none⟩)) ∧ PutOwn w' b (xs ++ low 1 v) 0 ∧ Fr b w w' := by
 have k1 : (((v : Int) / 256) != 0) = false := by simp; omega
 have k2 : decide ((v : Int) < 0) = false := by simp
 go_enter Tryz.func147, Tryz.ntmps147
 go_wp2_with (go_at_call 148; refine (number_ok _ b xs v 1 (by omega) (by omega) hx h).mono ?_; rintro e w' ⟨rfl, h1, h2⟩)
 go_ret
 exact ⟨rfl, h1, h2⟩
theorem narrow_fits_2 (w : World) (b : Nat) (xs : List UInt8) (v : Nat) (hv : v < 65536) (hx : xs.length ≤ 140737488355000) (h : PutIs w b xs 0) :
  Calls Tryz.prog 147 #[.pointer (some ⟨b, 0, none⟩), .int .i64 v, .int .i64 2] w fun r w' => r = .returned (.pointer (some ⟨b, 0, none⟩)) ∧ PutOwn w' b (xs ++ low 2 v) 0 ∧ Fr b w w' := by
 have k1 : (((v : Int) / 65536) != 0) = false := by simp; omega
 have k2 : decide ((v : Int) < 0) = false := by simp
 go_enter Tryz.func147, Tryz.ntmps147
 go_wp2_with (go_at_call 148; refine (number_ok _ b xs v 2 (by omega) (by omega) hx h).mono ?_; rintro e w' ⟨rfl, h1, h2⟩)
 go_ret
 exact ⟨rfl, h1, h2⟩
theorem narrow_fits_4 (w : World) (b : Nat) (xs : List UInt8) (v : Nat) (hv : v < 4294967296) (hx : xs.length ≤ 140737488355000) (h : PutIs w b xs 0) :
  Calls Tryz.prog 147 #[.pointer (some ⟨b, 0, none⟩), .int .i64 v, .int .i64 4] w fun r w' => r = .returned (.pointer (some ⟨b, 0, none⟩)) ∧ PutOwn w' b (xs ++ low 4 v) 0 ∧ Fr b w w' := by
 have k1 : (((v : Int) / 4294967296) != 0) = false := by simp; omega
 have k2 : decide ((v : Int) < 0) = false := by simp
 go_enter Tryz.func147, Tryz.ntmps147
 go_wp2_with (go_at_call 148; refine (number_ok _ b xs v 4 (by omega) (by omega) hx h).mono ?_; rintro e w' ⟨rfl, h1, h2⟩)
 go_ret
 exact ⟨rfl, h1, h2⟩
theorem putByte_ok (w : World) (b : Nat) (xs : List UInt8) (v : Nat) (hv : v < 256) (hx : xs.length ≤ 140737488355000) (h : PutIs w b xs 0) :
  Calls Tryz.prog 119 #[.pointer (some ⟨b, 0, none⟩), .int .i64 v] w fun r w' => r = .returned (.pointer (some ⟨b, 0, none⟩)) ∧ PutOwn w' b (xs ++ low 1 v) 0 ∧ Fr b w w' := by
 have H := Lib.hid (narrow_fits_1 w b xs v hv hx h)
 clear hv h
 go_enter Tryz.func119, Tryz.ntmps119
 go_wp2_with (go_at_call 147; refine H.out.mono ?_; rintro e w' ⟨rfl, h1, h2⟩)
 go_ret
 exact ⟨rfl, h1, h2⟩
theorem putHalf_ok (w : World) (b : Nat) (xs : List UInt8) (v : Nat) (hv : v < 65536) (hx : xs.length ≤ 140737488355000) (h : PutIs w b xs 0) :
  Calls Tryz.prog 120 #[.pointer (some ⟨b, 0, none⟩), .int .i64 v] w fun r w' => r = .returned (.pointer (some ⟨b, 0, none⟩)) ∧ PutOwn w' b (xs ++ low 2 v) 0 ∧ Fr b w w' := by
 have H := Lib.hid (narrow_fits_2 w b xs v hv hx h)
 clear hv h
 go_enter Tryz.func120, Tryz.ntmps120
 go_wp2_with (go_at_call 147; refine H.out.mono ?_; rintro e w' ⟨rfl, h1, h2⟩)
 go_ret
 exact ⟨rfl, h1, h2⟩
theorem putWord_ok (w : World) (b : Nat) (xs : List UInt8) (v : Nat) (hv : v < 4294967296) (hx : xs.length ≤ 140737488355000) (h : PutIs w b xs 0) :
  Calls Tryz.prog 121 #[.pointer (some ⟨b, 0, none⟩), .int .i64 v] w fun r w' => r = .returned (.pointer (some ⟨b, 0, none⟩)) ∧ PutOwn w' b (xs ++ low 4 v) 0 ∧ Fr b w w' := by
 have H := Lib.hid (narrow_fits_4 w b xs v hv hx h)
 clear hv h
 go_enter Tryz.func121, Tryz.ntmps121
 go_wp2_with (go_at_call 147; refine H.out.mono ?_; rintro e w' ⟨rfl, h1, h2⟩)
 go_ret
 exact ⟨rfl, h1, h2⟩
theorem putInt_ok (w : World) (b : Nat) (xs : List UInt8) (v : Nat) (hv : v < 9223372036854775808) (hx : xs.length ≤ 140737488355000) (h : PutIs w b xs 0) :
  Calls Tryz.prog 122 #[.pointer (some ⟨b, 0, none⟩), .int .i64 v] w fun r w' => r = .returned (.pointer (some ⟨b, 0, none⟩)) ∧ PutOwn w' b (xs ++ low 8 v) 0 ∧ Fr b w w' := by
 have hw : IntKind.u64.wrap (v : Int) = (v : Int) := by rw [IntKind.wrap_u64]; omega
 have H := Lib.hid (show Calls Tryz.prog 148 #[.pointer (some ⟨b, 0, none⟩), .int .u64 (IntKind.u64.wrap (v : Int)), .int .i64 8] w fun r w' => r = .returned (.pointer (some ⟨b, 0, none⟩)) ∧ PutOwn w' b (xs ++ low 8 v) 0 ∧ Fr b w w' from by rw [hw]; exact number_ok w b xs v 8 (by omega) (by omega) hx h)
 clear hv h hw
 go_enter Tryz.func122, Tryz.ntmps122
 go_wp2_with (go_at_call 148; refine H.out.mono ?_; rintro e w' ⟨rfl, h1, h2⟩)
 go_ret
 exact ⟨rfl, h1, h2⟩
theorem raw_ok (w : World) (b : Nat) (xs : List UInt8) (s : ByteArray) (hx : xs.length + s.size ≤ 140737488355000) (h : PutIs w b xs 0) :
  Calls Tryz.prog 123 #[.pointer (some ⟨b, 0, none⟩), .string s] w fun r w' => r = .returned (.pointer (some ⟨b, 0, none⟩)) ∧ PutOwn w' b (xs ++ s.data.toList) 0 ∧ Fr b w w' := by
 obtain ⟨i0, hi, hz0, hz1, hz2⟩ := info_parts infoByte
 go_enter Tryz.func123, Tryz.ntmps123
 go_wp2_with (first | (go_at_call 149; refine (ready_ok _ b xs h).mono ?_; rintro e w1 ⟨rfl, ho, hb⟩; have hlt := ho.lt; obtain ⟨v, h1, h2⟩ := ho; have c0 : w1.cell? ⟨b, 0, none⟩ = some v := (by rw [cell_at h1]; rfl); have H1 := Lib.hid h1; clear h1) | (at_builtin; go_must (refine wpList_append_own_string _ rfl (.tmp 11) (.tmp 12) 141 9 rfl (b + 1) 5 i0 Tryz.underlying141 Tryz.underlying9 hi hz0 hz1 hz2 _ _ _ rfl h2 s rfl ?c1 ?c2 ?c3 ?_)))
 case c1 => unfold maxLen; omega
 case c2 => omega
 case c3 => omega
 intro v' w2 hown' hgrow _
 obtain ⟨sa, sn, sc, rfl⟩ := owns_shape hown'
 have hblk := put_block H1.out h2 (by omega) hgrow
 have hb2 : Fr b w w2 := hb.grown hlt h2 (by omega) hgrow
 have hys : w2.ownsRow (b + 1) 5 1 (.slice sa sn sc) (xs ++ s.data.toList).length (cells (xs ++ s.data.toList)) := by
  rw [cells_append, List.length_append]; exact hown'
 have hst := put_stored hblk hys
 have c0' : w2.cell? ⟨b, 0, none⟩ = some v := by rw [cell_at hblk]; rfl
 have f0' : w2.frozen? ⟨b, 0, none⟩ = false := free_at hblk 0
 have hb3 : Fr b w (w2.setCell ⟨b, 0, none⟩ (.slice sa sn sc)) := hb2.setCell _ _
 clear hblk hb2 hys hown' hgrow c0 h2
 go_wp2
 go_ret
 exact ⟨rfl, hst, hb3⟩
theorem put_bad_cell {w : World} {b : Nat} {xs : List UInt8} {bad : Int} (h : PutIs w b xs bad) : w.cell? ⟨b, 2, none⟩ = some (.int .i64 bad) := by
 rcases h with ⟨v, h1, h2⟩ | ⟨h, rfl⟩
 ·rw [cell_at h1]; rfl
 ·rw [cell_at h]; rfl
theorem putEnd_ok (w : World) (b : Nat) (xs : List UInt8) (h : PutIs w b xs 0) :
  Calls Tryz.prog 124 #[.pointer (some ⟨b, 0, none⟩)] w fun r w' => r = .returned (.tuple #[.string ⟨xs.toArray⟩, .int .i64 0]) ∧ w = w' := by
 have c2 := put_bad_cell h
 obtain ⟨v, c0, hr⟩ : ∃ v, w.cell? ⟨b, 0, none⟩ = some v ∧ (convert 141 9 v).run Tryz.prog w = .ok (.string ⟨xs.toArray⟩) w := by
  rcases h with ⟨v, h1, h2⟩ | ⟨h, rfl⟩
  ·exact ⟨v, by rw [cell_at h1]; rfl, run_owned_string w h2⟩
  ·exact ⟨_, by rw [cell_at h]; rfl, run_owned_string (base := 0) (n := 0) w (World.ownsRow_nil w 0 5 1)⟩
 clear h
 go_enter Tryz.func124, Tryz.ntmps124
 go_wp2
 go_ret2
 exact ⟨rfl, rfl⟩
end Go.Proofs.YtbkngnjkaledlaaGreat.P5
