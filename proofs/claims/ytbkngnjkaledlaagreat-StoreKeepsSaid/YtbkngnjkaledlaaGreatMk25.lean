/-
  Texts of the proof of SaidKeeps8, side by side: Base0, SumA, SumB.
-/
import Derived.Test.YtbkngnjkaledlaaGreatRows
import Derived.WalkKit
import Derived.BigQuiet
import Derived.Deep.QuietTactic
import Derived.Deep.OwnRows
import Derived.Outline
import Derived.WalkSpells
import Derived.Lib.Builder
import Derived.Lib.SliceRun
import Derived.Lib.AppendStr
import Derived.Lib.BufSteps
import Derived.Lib.Hide
import Derived.Lib.BufferRead
/-
  Plain words for all packages: the bytes of a number, the lowest first; bytes as cells, as texts; blocks of one's own.
-/
namespace Go.Proofs.YtbkngnjkaledlaaGreat.P0
open Go Go.RowKit Go.Lib

/-- a number's lowest n bytes, the lowest first -/
def low (n v : Nat) : List UInt8 := (List.range n).map fun i => UInt8.ofNat (v / 256 ^ i)
theorem low_succ (n v : Nat) : low (n + 1) v = low n v ++ [UInt8.ofNat (v / 256 ^ n)] := by
  simp [low, List.range_succ]
theorem low_length (n v : Nat) : (low n v).length = n := by simp [low]
theorem low_zero (v : Nat) : low 0 v = [] := rfl

/-- bytes as cells -/
def cells (xs : List UInt8) : List Value := xs.map fun c => Value.int .u8 c.toNat
theorem cells_length (xs : List UInt8) : (cells xs).length = xs.length := by simp [cells]
theorem cells_append (a b : List UInt8) : cells (a ++ b) = cells a ++ cells b := by simp [cells]
theorem cells_str (s : ByteArray) : strCells s = cells s.data.toList := rfl
theorem cells_snoc (xs : List UInt8) (x : Nat) : cells (xs ++ [UInt8.ofNat x]) = cells xs ++ [.int .u8 ((x : Int) % 256)] := by
  simp [cells]

/-- bytes as a text -/
def str (l : List UInt8) : ByteArray := ⟨l.toArray⟩
theorem str_size (l : List UInt8) : (str l).size = l.length := by simp [str, ByteArray.size]
theorem str_list (l : List UInt8) : (str l).data.toList = l := by simp [str]
theorem str_eq (s : ByteArray) : str s.data.toList = s := by simp [str]
theorem str_inj {a b : List UInt8} (h : str a = str b) : a = b := by rw [← str_list a, h, str_list]
theorem text_ext {a b : ByteArray} (h : a.data.toList = b.data.toList) : a = b := by rw [← str_eq a, ← str_eq b, h]
theorem text_app (a b : ByteArray) : (a ++ b).data.toList = a.data.toList ++ b.data.toList := by simp [ByteArray.data_append]
theorem text_len (s : ByteArray) : s.data.toList.length = s.size := by simp
theorem size_app (a b : ByteArray) : (a ++ b).size = a.size + b.size := ByteArray.size_append ..

theorem same_true {a b : ByteArray} (h : a = b) : (a.toList == b.toList) = true := by rw [h]; exact beq_self_eq_true _
theorem same_false {a b : ByteArray} (h : a ≠ b) : (a.toList == b.toList) = false := by
  rw [beq_eq_false_iff_ne, ByteArray.toList_eq, ByteArray.toList_eq]
  exact fun e => h (text_ext e)
theorem cut_two (s : ByteArray) (n : Nat) : s.extract 0 n ++ s.extract n s.size = s := by
  apply text_ext
  rw [text_app, Lib.extract_data, Lib.extract_data, Nat.sub_zero, List.drop_zero, List.take_of_length_le (l := List.drop n _) (by simp), List.take_append_drop]
theorem app_cancel {a b c : ByteArray} (h : a ++ b = a ++ c) : b = c := by
  apply text_ext
  have := congrArg (fun x : ByteArray => x.data.toList) h
  simp only [text_app] at this
  exact List.append_cancel_left this

theorem lt_of_block {w : World} {b : Nat} {o : Obj} (h : w.heap[b]? = some o) : b < w.heap.size := (Array.getElem?_eq_some_iff.1 h).1
/-- what is owned stays, where nothing that was there has changed -/
theorem owns_below {w w' : World} {base e size : Nat} {v : Value} {n : Nat} {xs : List Value} (h : w.ownsRow base e size v n xs) (hb : Below w.heap.size w w') : w'.ownsRow base e size v n xs :=
  h.kept (row := none) ⟨hb.os, hb.tape, hb.output, hb.size, fun k hk _ => hb.block k hk⟩ (by cases hv : v.ownBlock <;> simp)
theorem owns_shape {w : World} {base e size n : Nat} {v : Value} {xs : List Value} (h : w.ownsRow base e size v n xs) : ∃ a k c, v = .slice a k c := by
  rcases h.2 with ⟨rfl, _⟩ | ⟨g, cap, cur, rfl, _⟩
  · exact ⟨_, _, _, rfl⟩
  · exact ⟨_, _, _, rfl⟩
theorem len_owned {w : World} {base e : Nat} {v : Value} {n : Nat} {xs : List Value} (h : w.ownsRow base e 1 v n xs) : ∃ a c, v = .slice a n c := by
  rcases h.2 with ⟨rfl, rfl⟩ | ⟨g, cap, cur, rfl, _⟩
  · exact ⟨_, _, rfl⟩
  · exact ⟨_, _, rfl⟩
theorem cell_at {w : World} {b : Nat} {c : Array Value} {t : TypeId} (h : w.heap[b]? = some (.cells c t (0, 0))) (j : Nat) : w.cell? ⟨b, j, none⟩ = c[j]? := by
  simp [World.cell?, h]
theorem free_at {w : World} {b : Nat} {c : Array Value} {t : TypeId} (h : w.heap[b]? = some (.cells c t (0, 0))) (j : Nat) : w.frozen? ⟨b, j, none⟩ = false := by
  simp [World.frozen?, h]
theorem set_at {w : World} {b : Nat} {c : Array Value} {t : TypeId} (h : w.heap[b]? = some (.cells c t (0, 0))) (j : Nat) (u : Value) : (w.setCell ⟨b, j, none⟩ u).heap[b]? = some (.cells (c.setIfInBounds j u) t (0, 0)) := by
  simp only [World.setCell, Array.getElem?_modify]; rw [h]; rfl
theorem new_at (w : World) (c : Array Value) (t : TypeId) : (w.alloc (.cells c t)).heap[w.heap.size]? = some (.cells c t (0, 0)) := heap_alloc_new w _
theorem below_new (w : World) (o : Obj) : Below w.heap.size w (w.alloc o) := (Below.refl _ w).alloc (Nat.le_refl _) o

theorem grow {a w : World} (h : Below a.heap.size a w) (o : Obj) : Below a.heap.size a (w.alloc o) := h.alloc h.size o
theorem thenBelow {a w w' : World} (h : Below a.heap.size a w) (k : Below w.heap.size w w') : Below a.heap.size a w' := h.trans (k.mono h.size)

theorem infoByte : (Tryz.prog.info? 5).map (fun i => (i.zero, i.size, i.bytes)) = some (some (.int .u8 0), 1, 1) := by kernel_rfl
theorem div_step {x n k : Nat} (h : x = n / 256 ^ k) : x / 256 = n / 256 ^ (k + 1) := by
  rw [h, Nat.div_div_eq_div_mul, Nat.pow_succ]
theorem run_owned_string (w : World) {base n : Nat} {v : Value} {xs : List UInt8} (h : w.ownsRow base 5 1 v n (cells xs)) :
    (convert 141 9 v).run Tryz.prog w = .ok (.string ⟨xs.toArray⟩) w := by
  have hn : n = xs.length := by have := h.1; simp [cells_length] at this; omega
  subst hn
  rcases h.2 with ⟨rfl, e⟩ | ⟨g, cap, cur, rfl, _, hg, _, _, _, ht⟩
  · obtain rfl : xs = [] := List.eq_nil_of_length_eq_zero e
    exact run_convert_nil_bytes w 141 9 5 0 Tryz.underlying141 Tryz.underlying5 Tryz.underlying9
  · rw [Nat.mul_one] at ht
    exact run_convert_bytes_back w 141 9 5 ⟨g, 0, none⟩ cap xs Tryz.underlying141 Tryz.underlying5 Tryz.underlying9 (bytes_of_row hg ht)

/-- a list of texts: what the value v reads as -/
def TextsIn (w : World) (v : Value) (l : List ByteArray) : Prop :=
  ∃ a c, v = .slice a l.length c ∧ (a = none → c = 0) ∧ l.length ≤ 9223372036854775807 ∧ (∀ i (h : i < l.length), l[i].size ≤ 9223372036854775807) ∧ (0 < l.length → ∃ b off, a = some ⟨b, off, none⟩ ∧ b < w.heap.size ∧ ∀ i (h : i < l.length), w.cell? ⟨b, off + i, none⟩ = some (.string l[i]))
theorem TextsIn.nil (w : World) : TextsIn w (.slice none 0 0) [] := ⟨none, 0, rfl, fun _ => rfl, by simp, fun i h => absurd h (Nat.not_lt_zero _), fun h => absurd h (Nat.lt_irrefl _)⟩
theorem TextsIn.below {w w' : World} {v : Value} {l : List ByteArray} (h : TextsIn w v l) (hb : Below w.heap.size w w') : TextsIn w' v l := by
  obtain ⟨a, c, h1, hn, hl, hz, h2⟩ := h
  refine ⟨a, c, h1, hn, hl, hz, fun h0 => ?_⟩
  obtain ⟨b, off, h3, h4, h5⟩ := h2 h0
  exact ⟨b, off, h3, Nat.lt_of_lt_of_le h4 hb.size, fun i hi => by rw [hb.cell (p := ⟨b, off + i, none⟩) h4]; exact h5 i hi⟩
/-- texts in a row that was just made -/
theorem TextsIn.new (w : World) (l : List ByteArray) (c : Nat) (hl : l.length ≤ 9223372036854775807) (hz : ∀ i (h : i < l.length), l[i].size ≤ 9223372036854775807) : TextsIn (w.alloc (.cells (l.map Value.string).toArray 9)) (.slice (some ⟨w.heap.size, 0, none⟩) l.length c) l := by
  refine ⟨_, c, rfl, (fun h => by cases h), hl, hz, fun _ => ⟨w.heap.size, 0, rfl, by simp, fun i hi => ?_⟩⟩
  rw [cell_at (new_at w _ _)]
  simp [hi]

theorem rLow_any (w : World) (n size : Nat) (hn : n < 18446744073709551616) (hs : size ≤ 8) :
    Calls Tryz.prog 87 #[.int .u64 n, .int .i64 size] w fun r w' => r = .returned (.string (str (low size n))) ∧ Below w.heap.size w w' := by
  obtain ⟨i0, hi, hz0, hz1, hz2⟩ := info_parts infoByte
  go_enter Tryz.func87, Tryz.ntmps87
  go_wp2
  go_loopw [0, 5, 6] (fun v b i wr => ∃ k x : Nat, k ≤ size ∧ i = .int .i64 k ∧ v = .int .u64 (x : Int) ∧ Hid (x = n / 256 ^ k) ∧ x < 18446744073709551616 ∧ wr.ownsRow w.heap.size 5 1 b k (cells (low k n)) ∧ Below w.heap.size w wr) (fun _ _ i _ => size - (RowKit.intOf i).toNat)
  case atStart => exact ⟨0, n, Nat.zero_le _, rfl, rfl, (by simp : n = n / 256 ^ 0), hn, World.ownsRow_nil _ _ _ _, Below.refl _ _⟩
  case round =>
    obtain ⟨k, x, hk, rfl, rfl, hxe, hxl, hown, hbel⟩ := hrel
    by_cases hks : k < size
    · go_wp2_with (at_builtin; refine wpList_append_own _ rfl _ _ 141 rfl w.heap.size 5 i0 (.int .u8 0) 1 1 Tryz.underlying141 hi hz0 hz1 hz2 rfl (by decide) _ _ _ rfl (hown.alloc _) ⟨wr.heap.size, 0, none⟩ 1 1 [.int .u8 ((x : Int) % 256)] rfl rfl ?c1 ?c2 ?c3 ?c4 ?c5 ?_)
      case c1 => exact cell_one_new _ _ _
      case c2 => intro u hu; simp at hu; subst hu; rfl
      case c3 => unfold maxLen; omega
      case c4 => omega
      case c5 => have := hbel.size; simp; omega
      intro v' w2 hown' hgrow _
      have hb2 : Below w.heap.size w w2 := (hbel.alloc hbel.size _).grown hgrow (by have := hbel.size; simp; omega) (fun q hq => (hown.lt q hq).1)
      have hys : w2.ownsRow w.heap.size 5 1 v' (k + 1) (cells (low (k + 1) n)) := by
        rw [low_succ, ← hxe.out, cells_snoc]; exact hown'
      have hxe' : Hid (x / 256 = n / 256 ^ (k + 1)) := div_step hxe.out
      have hx8 : x / 256 < 18446744073709551616 := by omega
      clear hown' hgrow hown hbel
      go_wp2
      go_roundw
      case rel => exact ⟨k + 1, x / 256, by omega, by go_num, by go_num, hxe', hx8, hys, hb2⟩
      case measure => simp [RowKit.intOf]; omega
    · obtain rfl : k = size := by omega
      obtain ⟨a, c, rfl⟩ := len_owned hown
      have hcv := run_owned_string wr hown
      have HI : Hid (str (low k n) = ⟨(low k n).toArray⟩) := rfl
      generalize (⟨(low k n).toArray⟩ : ByteArray) = z at hcv HI
      go_wp2
      go_ret
      exact ⟨by rw [HI.out]; rfl, hbel⟩

end Go.Proofs.YtbkngnjkaledlaaGreat.P0

/-
  Check sums as numbers: package sum's step and Of, the reference's Sum, by contracts.
-/
namespace Go.Proofs.YtbkngnjkaledlaaGreat.P2
open Go Go.RowKit Go.Lib Go.Proofs.YtbkngnjkaledlaaGreat.P0

/-- a sum over one bit -/
def bit1 (x : Nat) : Nat := if x % 2 = 1 then x / 2 ^^^ 2197175160 else x / 2
/-- a sum over n bits -/
def bitN : Nat → Nat → Nat
  | 0, x => x
  | n + 1, x => bit1 (bitN n x)
/-- a sum over bytes -/
def upd (x : Nat) (l : List UInt8) : Nat := l.foldl (fun x c => bitN 8 (x ^^^ c.toNat)) x
/-- the check sum of bytes -/
def crc (l : List UInt8) : Nat := 4294967295 ^^^ upd 4294967295 l

theorem bit1_lt {x : Nat} (h : x < 4294967296) : bit1 x < 4294967296 := by
  unfold bit1
  split
  · exact Nat.xor_lt_two_pow (n := 32) (by omega) (by decide)
  · omega
theorem bitN_lt {x : Nat} (h : x < 4294967296) (n : Nat) : bitN n x < 4294967296 := by
  induction n with
  | zero => exact h
  | succ n ih => exact bit1_lt ih
theorem xor_byte_lt {x : Nat} (h : x < 4294967296) (c : UInt8) : x ^^^ c.toNat < 4294967296 :=
  Nat.xor_lt_two_pow (n := 32) (by omega) (by have := c.toNat_lt; omega)
theorem upd_lt {x : Nat} (h : x < 4294967296) (l : List UInt8) : upd x l < 4294967296 := by
  induction l generalizing x with
  | nil => exact h
  | cons c r ih => exact ih (bitN_lt (xor_byte_lt h c) 8)
theorem upd_append (x : Nat) (a b : List UInt8) : upd x (a ++ b) = upd (upd x a) b := by simp [upd]
theorem upd_nil (x : Nat) : upd x [] = x := rfl
theorem upd_snoc (x : Nat) (a : List UInt8) (c : UInt8) : upd x (a ++ [c]) = bitN 8 (upd x a ^^^ c.toNat) := by simp [upd]
theorem crc_lt (l : List UInt8) : crc l < 4294967296 :=
  Nat.xor_lt_two_pow (n := 32) (by decide) (upd_lt (by decide) l)

/-- one bit as the code reckons it -/
theorem step_bits {x : Nat} (h : x < 4294967296) :
    bits .xor .u32 ((x : Int) / 2) (bits .and .u32 2197175160 (-bits .and .u32 (x : Int) 1 % 4294967296)) = (bit1 x : Int) := by
  have e1 : bits .and .u32 (x : Int) 1 = ((x % 2 : Nat) : Int) := by
    have := u32_and_nat x 1 h (by decide)
    rw [Nat.and_one_is_mod] at this
    exact this
  have e0 : ((x : Int) / 2) = ((x / 2 : Nat) : Int) := by omega
  rw [e1, e0]
  unfold bit1
  rcases Nat.mod_two_eq_zero_or_one x with hx | hx
  · rw [hx, if_neg (by decide)]
    have e2 : bits .and .u32 2197175160 (-((0 : Nat) : Int) % 4294967296) = ((0 : Nat) : Int) := by kernel_rfl
    rw [e2, u32_xor_nat (x / 2) 0 (by omega) (by decide), Nat.xor_zero]
  · rw [hx, if_pos rfl]
    have e2 : bits .and .u32 2197175160 (-((1 : Nat) : Int) % 4294967296) = ((2197175160 : Nat) : Int) := by kernel_rfl
    rw [e2, u32_xor_nat (x / 2) 2197175160 (by omega) (by decide)]

theorem step_any (w : World) (x : Nat) (h : x < 4294967296) :
    Calls Tryz.prog 190 #[.int .u32 x] w fun r w' => r = .returned (.int .u32 (bitN 8 x : Nat)) ∧ w = w' := by
  go_enter Tryz.func190, Tryz.ntmps190
  go_wp2
  go_loop [0, 3] (fun v i => ∃ k y : Nat, k ≤ 8 ∧ i = .int .i64 k ∧ v = .int .u32 (y : Int) ∧ y < 4294967296 ∧ Hid (y = bitN k x)) (fun _ i => 8 - (RowKit.intOf i).toNat)
  case atStart => exact ⟨0, x, by omega, rfl, rfl, h, rfl⟩
  case round =>
    obtain ⟨k, y, hk, rfl, rfl, hy, hyx⟩ := hrel
    have hs := Lib.hid (step_bits hy)
    by_cases h8 : k < 8
    · go_wp2
      go_round
      case rel => exact ⟨k + 1, bit1 y, by omega, by go_num, congrArg _ hs.out, bit1_lt hy, by rw [hyx.out]; rfl⟩
      case measure => simp [RowKit.intOf]; omega
    · have h9 : Hid (k = 8) := by show k = 8; omega
      go_wp2
      go_ret
      exact ⟨by rw [hyx.out, h9.out]; rfl, rfl⟩

end Go.Proofs.YtbkngnjkaledlaaGreat.P2

/-
  Package sum's Of, and the reference's Sum, by contracts: both tell the check sum of all bytes, one behind the other.
-/
namespace Go.Proofs.YtbkngnjkaledlaaGreat.P2
open Go Go.RowKit Go.Lib Go.Proofs.YtbkngnjkaledlaaGreat.P0

/-- all texts' bytes, one behind the other -/
def allOf (l : List ByteArray) : List UInt8 := (l.map fun s => s.data.toList).flatten
theorem allOf_nil : allOf [] = [] := rfl
theorem allOf_cons (s : ByteArray) (l : List ByteArray) : allOf (s :: l) = s.data.toList ++ allOf l := by simp [allOf]
theorem allOf_take {l : List ByteArray} {k : Nat} (h : k < l.length) : allOf (l.take (k + 1)) = allOf (l.take k) ++ l[k].data.toList := by
  rw [List.take_succ_eq_append_getElem h]; simp only [allOf, List.map_append, List.flatten_append, List.map_cons, List.map_nil, List.flatten_cons, List.flatten_nil, List.append_nil]
theorem bytes_take {s : ByteArray} {k : Nat} (h : k < s.size) : s.data.toList.take (k + 1) = s.data.toList.take k ++ [s[k]] := by
  rw [List.take_succ_eq_append_getElem (by simpa using h)]
  simp; rfl
theorem xor_code {x : Nat} (h : x < 4294967296) (c : UInt8) : bits .xor .u32 (x : Int) ((c.toNat : Int) % 4294967296) = ((x ^^^ c.toNat : Nat) : Int) := by
  have hc := c.toNat_lt
  rw [show ((c.toNat : Int) % 4294967296) = (c.toNat : Int) by omega]
  exact u32_xor_nat x c.toNat h (by omega)
theorem fin_code {x : Nat} (h : x < 4294967296) : bits .xor .u32 IntKind.u32.max (x : Int) = ((4294967295 ^^^ x : Nat) : Int) :=
  u32_xor_nat 4294967295 x (by decide) h

theorem of_any (w : World) (v : Value) (l : List ByteArray) (h : TextsIn w v l) :
    Calls Tryz.prog 177 #[v] w fun r w' => r = .returned (.int .u32 (crc (allOf l))) ∧ w = w' := by
  obtain ⟨a, c, rfl, _, hl, hz, hc⟩ := h
  go_enter Tryz.func177, Tryz.ntmps177
  go_wp2
  go_loop [3, 9] (fun v i => ∃ k x : Nat, k ≤ l.length ∧ i = .int .i64 k ∧ v = .int .u32 (x : Int) ∧ x < 4294967296 ∧ Hid (x = upd 4294967295 (allOf (l.take k)))) (fun _ i => l.length - (RowKit.intOf i).toNat)
  case atStart => exact ⟨0, 4294967295, Nat.zero_le _, rfl, rfl, by decide, rfl⟩
  case round =>
    obtain ⟨k, x, hk, rfl, rfl, hx, hxe⟩ := hrel
    by_cases hlt : k < l.length
    · obtain ⟨b, off, rfl, hb, hcc⟩ := hc (by omega)
      have hcell := hcc k hlt
      have hT := Lib.hid (allOf_take hlt)
      have hsz := hz k hlt
      generalize l[k] = s at hcell hT hsz
      clear hcc hc hz
      go_wp2
      go_loop [3, 15] (fun v i => ∃ j y : Nat, j ≤ s.size ∧ i = .int .i64 j ∧ v = .int .u32 (y : Int) ∧ y < 4294967296 ∧ Hid (y = upd x (s.data.toList.take j))) (fun _ i => s.size - (RowKit.intOf i).toNat)
      case atStart => exact ⟨0, x, Nat.zero_le _, rfl, rfl, hx, rfl⟩
      case round =>
        obtain ⟨j, y, hj, rfl, rfl, hy, hye⟩ := hrel
        by_cases hjt : j < s.size
        · have hxc := xor_code hy s[j]
          have HS := fun w' => Lib.hid (step_any w' _ (xor_byte_lt hy s[j]))
          have hN := Lib.hid (bitN_lt (xor_byte_lt hy s[j]) 8)
          have hU : Hid (bitN 8 (y ^^^ s[j].toNat) = upd x (s.data.toList.take (j + 1))) := by
            show _ = _
            rw [bytes_take hjt, upd_snoc, hye.out]
          generalize hz : y ^^^ s[j].toNat = z at hxc HS hN hU
          generalize bitN 8 z = q at HS hN hU
          clear hz hye hxe hT hcell
          go_wp2_with (go_at_call 190; refine (HS _).out.mono ?_; rintro e w1 ⟨rfl, rfl⟩)
          go_round
          case rel => exact ⟨j + 1, q, by omega, by go_num, rfl, hN.out, hU⟩
          case measure => simp [RowKit.intOf]; omega
        · have hU : Hid (y = upd 4294967295 (allOf (l.take (k + 1)))) := by
            show _ = _
            rw [hT.out, upd_append, ← hxe.out, hye.out, List.take_of_length_le (by simp; omega)]
          clear hye hxe hT hcell
          go_wp2
          go_round
          case rel => exact ⟨k + 1, y, by omega, by go_num, rfl, hy, hU⟩
          case measure => simp [RowKit.intOf]; omega
    · have hU : Hid (((4294967295 ^^^ x : Nat) : Int) = (crc (allOf l) : Int)) := by
        show _ = _
        rw [hxe.out, List.take_of_length_le (by omega)]; rfl
      have hf := fin_code hx
      go_wp2
      go_ret
      exact ⟨by rw [← hU.out]; rfl, rfl⟩

end Go.Proofs.YtbkngnjkaledlaaGreat.P2
