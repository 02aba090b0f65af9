/-
  Plain words for all packages: the bytes of a number, the lowest first; bytes as cells, as texts; blocks of one's own.
-/
import Derived.Test.YtpbaodjmkdcihaaRows
import Derived.WalkKit
import Derived.BigQuiet
import Derived.Deep.QuietTactic
import Derived.Deep.OwnRows
import Derived.Outline
import Derived.WalkSpells
import Derived.Lib.Builder
import Derived.Lib.SliceRun
import Derived.Lib.AppendStr
import Derived.Lib.BufSteps
import Derived.Lib.Hide
import Derived.Lib.BufferRead
namespace Go.Proofs.Ytpbaodjmkdcihaa.P0
open Go Go.RowKit Go.Lib

/-- a number's lowest n bytes, the lowest first -/
def low (n v : Nat) : List UInt8 := (List.range n).map fun i => UInt8.ofNat (v / 256 ^ i)
theorem low_succ (n v : Nat) : low (n + 1) v = low n v ++ [UInt8.ofNat (v / 256 ^ n)] := by
  simp [low, List.range_succ]
theorem low_length (n v : Nat) : (low n v).length = n := by simp [low]
theorem low_zero (v : Nat) : low 0 v = [] := rfl

/-- bytes as cells -/
def cells (xs : List UInt8) : List Value := xs.map fun c => Value.int .u8 c.toNat
theorem cells_length (xs : List UInt8) : (cells xs).length = xs.length := by simp [cells]
theorem cells_append (a b : List UInt8) : cells (a ++ b) = cells a ++ cells b := by simp [cells]
theorem cells_str (s : ByteArray) : strCells s = cells s.data.toList := rfl
theorem cells_snoc (xs : List UInt8) (x : Nat) : cells (xs ++ [UInt8.ofNat x]) = cells xs ++ [.int .u8 ((x : Int) % 256)] := by
  simp [cells]

/-- bytes as a text -/
def str (l : List UInt8) : ByteArray := ⟨l.toArray⟩
theorem str_size (l : List UInt8) : (str l).size = l.length := by simp [str, ByteArray.size]
theorem str_list (l : List UInt8) : (str l).data.toList = l := by simp [str]
theorem str_eq (s : ByteArray) : str s.data.toList = s := by simp [str]
theorem str_inj {a b : List UInt8} (h : str a = str b) : a = b := by rw [← str_list a, h, str_list]
theorem text_ext {a b : ByteArray} (h : a.data.toList = b.data.toList) : a = b := by rw [← str_eq a, ← str_eq b, h]
theorem text_app (a b : ByteArray) : (a ++ b).data.toList = a.data.toList ++ b.data.toList := by simp [ByteArray.data_append]
theorem text_len (s : ByteArray) : s.data.toList.length = s.size := by simp
theorem size_app (a b : ByteArray) : (a ++ b).size = a.size + b.size := ByteArray.size_append ..

theorem same_true {a b : ByteArray} (h : a = b) : (a.toList == b.toList) = true := by rw [h]; exact beq_self_eq_true _
theorem same_false {a b : ByteArray} (h : a ≠ b) : (a.toList == b.toList) = false := by
  rw [beq_eq_false_iff_ne, ByteArray.toList_eq, ByteArray.toList_eq]
  exact fun e => h (text_ext e)
theorem cut_two (s : ByteArray) (n : Nat) : s.extract 0 n ++ s.extract n s.size = s := by
  apply text_ext
  rw [text_app, Lib.extract_data, Lib.extract_data, Nat.sub_zero, List.drop_zero, List.take_of_length_le (l := List.drop n _) (by simp), List.take_append_drop]
theorem app_cancel {a b c : ByteArray} (h : a ++ b = a ++ c) : b = c := by
  apply text_ext
  have := congrArg (fun x : ByteArray => x.data.toList) h
  simp only [text_app] at this
  exact List.append_cancel_left this

theorem lt_of_block {w : World} {b : Nat} {o : Obj} (h : w.heap[b]? = some o) : b < w.heap.size := (Array.getElem?_eq_some_iff.1 h).1
/-- what is owned stays, where nothing that was there has changed -/
theorem owns_below {w w' : World} {base e size : Nat} {v : Value} {n : Nat} {xs : List Value} (h : w.ownsRow base e size v n xs) (hb : Below w.heap.size w w') : w'.ownsRow base e size v n xs :=
  h.kept (row := none) ⟨hb.os, hb.tape, hb.output, hb.size, fun k hk _ => hb.block k hk⟩ (by cases hv : v.ownBlock <;> simp)
theorem owns_shape {w : World} {base e size n : Nat} {v : Value} {xs : List Value} (h : w.ownsRow base e size v n xs) : ∃ a k c, v = .slice a k c := by
  rcases h.2 with ⟨rfl, _⟩ | ⟨g, cap, cur, rfl, _⟩
  · exact ⟨_, _, _, rfl⟩
  · exact ⟨_, _, _, rfl⟩
theorem len_owned {w : World} {base e : Nat} {v : Value} {n : Nat} {xs : List Value} (h : w.ownsRow base e 1 v n xs) : ∃ a c, v = .slice a n c := by
  rcases h.2 with ⟨rfl, rfl⟩ | ⟨g, cap, cur, rfl, _⟩
  · exact ⟨_, _, rfl⟩
  · exact ⟨_, _, rfl⟩
theorem cell_at {w : World} {b : Nat} {c : Array Value} {t : TypeId} (h : w.heap[b]? = some (.cells c t (0, 0))) (j : Nat) : w.cell? ⟨b, j, none⟩ = c[j]? := by
  simp [World.cell?, h]
theorem free_at {w : World} {b : Nat} {c : Array Value} {t : TypeId} (h : w.heap[b]? = some (.cells c t (0, 0))) (j : Nat) : w.frozen? ⟨b, j, none⟩ = false := by
  simp [World.frozen?, h]
theorem set_at {w : World} {b : Nat} {c : Array Value} {t : TypeId} (h : w.heap[b]? = some (.cells c t (0, 0))) (j : Nat) (u : Value) : (w.setCell ⟨b, j, none⟩ u).heap[b]? = some (.cells (c.setIfInBounds j u) t (0, 0)) := by
  simp only [World.setCell, Array.getElem?_modify]; rw [h]; rfl
theorem new_at (w : World) (c : Array Value) (t : TypeId) : (w.alloc (.cells c t)).heap[w.heap.size]? = some (.cells c t (0, 0)) := heap_alloc_new w _
theorem below_new (w : World) (o : Obj) : Below w.heap.size w (w.alloc o) := (Below.refl _ w).alloc (Nat.le_refl _) o

theorem grow {a w : World} (h : Below a.heap.size a w) (o : Obj) : Below a.heap.size a (w.alloc o) := h.alloc h.size o
theorem thenBelow {a w w' : World} (h : Below a.heap.size a w) (k : Below w.heap.size w w') : Below a.heap.size a w' := h.trans (k.mono h.size)

theorem infoByte : (Try.prog.info? 5).map (fun i => (i.zero, i.size, i.bytes)) = some (some (.int .u8 0), 1, 1) := by kernel_rfl
theorem div_step {x n k : Nat} (h : x = n / 256 ^ k) : x / 256 = n / 256 ^ (k + 1) := by
  rw [h, Nat.div_div_eq_div_mul, Nat.pow_succ]
theorem run_owned_string (w : World) {base n : Nat} {v : Value} {xs : List UInt8} (h : w.ownsRow base 5 1 v n (cells xs)) :
    (convert 44 9 v).run Try.prog w = .ok (.string ⟨xs.toArray⟩) w := by
  have hn : n = xs.length := by have := h.1; simp [cells_length] at this; omega
  subst hn
  rcases h.2 with ⟨rfl, e⟩ | ⟨g, cap, cur, rfl, _, hg, _, _, _, ht⟩
  · obtain rfl : xs = [] := List.eq_nil_of_length_eq_zero e
    exact run_convert_nil_bytes w 44 9 5 0 Try.underlying44 Try.underlying5 Try.underlying9
  · rw [Nat.mul_one] at ht
    exact run_convert_bytes_back w 44 9 5 ⟨g, 0, none⟩ cap xs Try.underlying44 Try.underlying5 Try.underlying9 (bytes_of_row hg ht)

/-- a list of texts: what the value v reads as -/
def TextsIn (w : World) (v : Value) (l : List ByteArray) : Prop :=
  ∃ a c, v = .slice a l.length c ∧ (a = none → c = 0) ∧ l.length ≤ 9223372036854775807 ∧ (∀ i (h : i < l.length), l[i].size ≤ 9223372036854775807) ∧ (0 < l.length → ∃ b off, a = some ⟨b, off, none⟩ ∧ b < w.heap.size ∧ ∀ i (h : i < l.length), w.cell? ⟨b, off + i, none⟩ = some (.string l[i]))
theorem TextsIn.nil (w : World) : TextsIn w (.slice none 0 0) [] := ⟨none, 0, rfl, fun _ => rfl, by simp, fun i h => absurd h (Nat.not_lt_zero _), fun h => absurd h (Nat.lt_irrefl _)⟩
theorem TextsIn.below {w w' : World} {v : Value} {l : List ByteArray} (h : TextsIn w v l) (hb : Below w.heap.size w w') : TextsIn w' v l := by
  obtain ⟨a, c, h1, hn, hl, hz, h2⟩ := h
  refine ⟨a, c, h1, hn, hl, hz, fun h0 => ?_⟩
  obtain ⟨b, off, h3, h4, h5⟩ := h2 h0
  exact ⟨b, off, h3, Nat.lt_of_lt_of_le h4 hb.size, fun i hi => by rw [hb.cell (p := ⟨b, off + i, none⟩) h4]; exact h5 i hi⟩
/-- texts in a row that was just made -/
theorem TextsIn.new (w : World) (l : List ByteArray) (c : Nat) (hl : l.length ≤ 9223372036854775807) (hz : ∀ i (h : i < l.length), l[i].size ≤ 9223372036854775807) : TextsIn (w.alloc (.cells (l.map Value.string).toArray 9)) (.slice (some ⟨w.heap.size, 0, none⟩) l.length c) l := by
  refine ⟨_, c, rfl, (fun h => by cases h), hl, hz, fun _ => ⟨w.heap.size, 0, rfl, by simp, fun i hi => ?_⟩⟩
  rw [cell_at (new_at w _ _)]
  simp [hi]

theorem rLow_any (w : World) (n size : Nat) (hn : n < 18446744073709551616) (hs : size ≤ 8) :
    Calls Try.prog 23 #[.int .u64 n, .int .i64 size] w fun r w' => r = .returned (.string (str (low size n))) ∧ Below w.heap.size w w' := by
  obtain ⟨i0, hi, hz0, hz1, hz2⟩ := info_parts infoByte
  go_enter Try.func23, Try.ntmps23
  go_wp2
  go_loopw [0, 5, 6] (fun v b i wr => ∃ k x : Nat, k ≤ size ∧ i = .int .i64 k ∧ v = .int .u64 (x : Int) ∧ Hid (x = n / 256 ^ k) ∧ x < 18446744073709551616 ∧ wr.ownsRow w.heap.size 5 1 b k (cells (low k n)) ∧ Below w.heap.size w wr) (fun _ _ i _ => size - (RowKit.intOf i).toNat)
  case atStart => exact ⟨0, n, Nat.zero_le _, rfl, rfl, (by simp : n = n / 256 ^ 0), hn, World.ownsRow_nil _ _ _ _, Below.refl _ _⟩
  case round =>
    obtain ⟨k, x, hk, rfl, rfl, hxe, hxl, hown, hbel⟩ := hrel
    by_cases hks : k < size
    · go_wp2_with (at_builtin; refine wpList_append_own _ rfl _ _ 44 rfl w.heap.size 5 i0 (.int .u8 0) 1 1 Try.underlying44 hi hz0 hz1 hz2 rfl (by decide) _ _ _ rfl (hown.alloc _) ⟨wr.heap.size, 0, none⟩ 1 1 [.int .u8 ((x : Int) % 256)] rfl rfl ?c1 ?c2 ?c3 ?c4 ?c5 ?_)
      case c1 => exact cell_one_new _ _ _
      case c2 => intro u hu; simp at hu; subst hu; rfl
      case c3 => unfold maxLen; omega
      case c4 => omega
      case c5 => have := hbel.size; simp; omega
      intro v' w2 hown' hgrow _
      have hb2 : Below w.heap.size w w2 := (hbel.alloc hbel.size _).grown hgrow (by have := hbel.size; simp; omega) (fun q hq => (hown.lt q hq).1)
      have hys : w2.ownsRow w.heap.size 5 1 v' (k + 1) (cells (low (k + 1) n)) := by
        rw [low_succ, ← hxe.out, cells_snoc]; exact hown'
      have hxe' : Hid (x / 256 = n / 256 ^ (k + 1)) := div_step hxe.out
      have hx8 : x / 256 < 18446744073709551616 := by omega
      clear hown' hgrow hown hbel
      go_wp2
      go_roundw
      case rel => exact ⟨k + 1, x / 256, by omega, by go_num, by go_num, hxe', hx8, hys, hb2⟩
      case measure => simp [RowKit.intOf]; omega
    · obtain rfl : k = size := by omega
      obtain ⟨a, c, rfl⟩ := len_owned hown
      have hcv := run_owned_string wr hown
      have HI : Hid (str (low k n) = ⟨(low k n).toArray⟩) := rfl
      generalize (⟨(low k n).toArray⟩ : ByteArray) = z at hcv HI
      go_wp2
      go_ret
      exact ⟨by rw [HI.out]; rfl, hbel⟩

end Go.Proofs.Ytpbaodjmkdcihaa.P0
