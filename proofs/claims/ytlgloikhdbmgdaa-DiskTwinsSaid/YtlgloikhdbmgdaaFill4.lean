/-
  The law's Fill: a sector of some bytes.
-/
import Derived.Test.YtlgloikhdbmgdaaDk30
import Derived.Deep.OwnRows
import Derived.Lib.BufferRead
import Derived.Laws.IdiomStrings
namespace Go.Proofs.Ytlgloikhdbmgdaa.P4
set_option maxRecDepth 20000
open Go Go.RowKit Go.Lib Go.Maps Go.ChangeMaps Go.MapKept Go.Proofs.Ytlgloikhdbmgdaa.P3

theorem infoByte4 : (Try.prog.info? 5).map (fun i => (i.zero, i.size, i.bytes)) = some (some (.int .u8 0), 1, 1) := by kernel_rfl
def fillAt (s : ByteArray) (i : Nat) : UInt8 := s.data.toList.getD (i % s.size) 0
def fillL (s : ByteArray) : List UInt8 := (List.range 256).map (fillAt s)
def fillB (s : ByteArray) : ByteArray := ⟨(fillL s).toArray⟩
theorem fillB_size (s : ByteArray) : (fillB s).size = 256 := by simp [fillB, fillL, ByteArray.size]
def rowB (s : ByteArray) (k : Nat) : Array Value := ((List.range 256).map fun i => Value.int .u8 (if i < k then ((fillAt s i).toNat : Int) else 0)).toArray
theorem rowB_zero (s : ByteArray) : madeCells #[.int .u8 0] 256 = rowB s 0 := by
  apply Array.ext'
  unfold rowB
  apply List.ext_getElem?
  intro i
  by_cases h : i < 256
  · simp [madeCells, h, Nat.mod_one]
  · simp [madeCells, h]
theorem rowB_step (s : ByteArray) (k : Nat) : (rowB s k).setIfInBounds k (.int .u8 ((fillAt s k).toNat : Int)) = rowB s (k + 1) := by
  apply Array.ext'
  unfold rowB
  apply List.ext_getElem?
  intro i
  by_cases h : i < 256
  · by_cases hik : k = i
    · subst hik
      simp [h]
    · have e : (i < k + 1) = (i < k) := by apply propext; omega
      simp [h, List.getElem?_set, hik, e]
  · simp [h, List.getElem?_set]
theorem rowB_nil (s : ByteArray) (hs : s.size = 0) (k : Nat) : rowB s (k + 1) = rowB s k := by
  have hl : s.data.toList = [] := List.eq_nil_of_length_eq_zero (by rw [← hs]; simp)
  have hf : ∀ i, fillAt s i = 0 := fun i => by unfold fillAt; rw [hl]; rfl
  unfold rowB
  congr 1
  apply List.map_congr_left
  intro i _
  rw [hf]
  simp
theorem rowB_full (s : ByteArray) : (rowB s 256).toList.take (fillL s).length = byteCells (fillL s) := by
  have e : (rowB s 256).toList = byteCells (fillL s) := by
    unfold rowB fillL byteCells
    rw [List.toList_toArray, List.map_map]
    apply List.map_congr_left
    intro i hi
    have : i < 256 := List.mem_range.1 hi
    simp [this]
  rw [e]
  apply List.take_of_length_le
  simp [byteCells]
theorem made_row4 (w : World) : (Instr.makeSlice 29 (.int .i64 256) (.int .i64 256)).run Try.prog w = .ok (.slice (some ⟨w.heap.size, 0, none⟩) 256 256) (w.alloc (.cells (madeCells #[.int .u8 0] 256) 5)) :=
  run_make_row' (P := Try.prog) 29 5 (.int .u8 0) 1 Try.underlying29 infoByte4 rfl .i64 .i64 256 (by omega) (by omega) w
theorem fill_string {w : World} {X : Nat} (s : ByteArray) (h : w.heap[X]? = some (.cells (rowB s 256) 5 (0, 0))) : (convert 29 9 (.slice (some ⟨X, 0, none⟩) 256 256)).run Try.prog w = .ok (.string (fillB s)) w := by
  have e := run_convert_bytes_back w 29 9 5 ⟨X, 0, none⟩ 256 (fillL s) Try.underlying29 Try.underlying5 Try.underlying9 (bytes_of_row h (rowB_full s))
  rw [show (fillL s).length = 256 from by simp [fillL]] at e
  exact e

theorem fill_not (w : World) (s : ByteArray) : Calls Try.prog 11 #[.string s, .bool false] w fun e w' => e = .returned (.string s) ∧ w = w' := by
  go_enter Try.func11, Try.ntmps11
  go_wp2
  go_ret
  exact ⟨rfl, rfl⟩
theorem fill_own (w : World) (s : ByteArray) (hs : s.size ≤ 9223372036854775807) : Calls Try.prog 11 #[.string s, .bool true] w fun e w' => e = .returned (.string (fillB s)) ∧ Below w.heap.size w w' := by
  have hmk : ∀ w : World, (Instr.makeSlice 29 (.int .i64 256) (.int .i64 256)).run Try.prog w = .ok (.slice (some ⟨w.heap.size, 0, none⟩) 256 256) (w.alloc (.cells (rowB s 0) 5)) := fun w => by rw [← rowB_zero s]; exact made_row4 w
  have hb0 : Below w.heap.size w (w.alloc (.cells (rowB s 0) 5)) := below_new _ _
  have hn0 := new_at w (rowB s 0) 5
  go_enter Try.func11, Try.ntmps11
  go_wp2
  obtain ⟨X, hX⟩ : ∃ X, X = w.heap.size := ⟨_, rfl⟩
  rw [← hX] at hb0 hn0 ⊢
  have HX := Lib.hid hX
  clear hX hmk
  go_loopw [13] (fun i wr => ∃ k : Nat, k ≤ 256 ∧ i = .int .i64 k ∧ Hid (wr.heap[X]? = some (.cells (rowB s k) 5 (0, 0))) ∧ Hid (Below X w wr)) (fun i _ => 256 - (RowKit.intOf i).toNat)
  case atStart => exact ⟨0, by omega, rfl, hn0, hb0⟩
  case round =>
    obtain ⟨k, hk, rfl, hrow, hbel⟩ := hrel
    have hnb : (0 : Int) ≤ (k : Int) := by omega
    by_cases hk2 : k = 256
    · subst hk2
      have hcv := fill_string s hrow.out
      obtain ⟨z, hz⟩ : ∃ z, z = fillB s := ⟨_, rfl⟩
      rw [← hz] at hcv
      have HZ := Lib.hid hz
      clear hz hs hn0 hb0
      go_wp2
      go_ret
      exact ⟨by rw [← HZ.out]; rfl, HX.out ▸ hbel.out⟩
    · have hlt : k < 256 := by omega
      clear hn0 hb0 hk hk2
      by_cases hs0 : s.size = 0
      · have HN : Hid (wr.heap[X]? = some (.cells (rowB s (k + 1)) 5 (0, 0))) := by rw [rowB_nil s hs0]; exact hrow
        go_wp2
        go_roundw
        case rel => exact ⟨k + 1, by omega, by go_num, HN, hbel⟩
        case measure => simp [RowKit.intOf]; omega
      · have hpos : 0 < s.size := by omega
        obtain ⟨r, hr⟩ : ∃ r, r = k % s.size := ⟨_, rfl⟩
        have hrs : r < s.size := by rw [hr]; exact Nat.mod_lt _ hpos
        have hri : (k : Int) % (s.size : Int) = (r : Int) := by rw [hr]; omega
        have hcell : wr.cell? ⟨X, k, none⟩ = some (.int .u8 0) := by
          rw [cell_at hrow.out]; simp [rowB, hlt]
        have hfree := free_at hrow.out k
        have HS := Lib.hid hs0
        have HR := Lib.hid hr
        clear hs0 hr
        go_wp2
        have hby : fillAt s k = s[r] := by
          unfold fillAt
          rw [← HR.out, List.getD_eq_getElem?_getD, List.getElem?_eq_getElem (by simpa using hrs)]
          rfl
        have HN : Hid ((wr.setCell ⟨X, k, none⟩ (.int .u8 (s[r].toNat : Int))).heap[X]? = some (.cells (rowB s (k + 1)) 5 (0, 0))) := by
          have e := set_at hrow.out k (.int .u8 (s[r].toNat : Int))
          rw [← hby, rowB_step, hby] at e
          exact e
        have HB : Hid (Below X w (wr.setCell ⟨X, k, none⟩ (.int .u8 (s[r].toNat : Int)))) := hbel.out.setCell (Nat.le_refl X) _
        go_roundw
        case rel => exact ⟨k + 1, by omega, by go_num, HN, HB⟩
        case measure => simp [RowKit.intOf]; omega

end Go.Proofs.Ytlgloikhdbmgdaa.P4
