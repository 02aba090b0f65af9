/-
  Texts of the proof of SaidPlays, side by side: Dk30, Fill4, Dk31, Ab0.
-/
import Derived.Test.YtaabepiddbnggaaGreatMp15
import Derived.Deep.OwnRows
import Derived.Lib.BufferRead
import Derived.Laws.IdiomStrings
/-
  Package disk: Read; a nil disk. (Disk, part 30.)
-/
namespace Go.Proofs.YtaabepiddbnggaaGreat.P4
open Go Go.RowKit Go.Lib Go.Maps Go.ChangeMaps Go.MapKept Go.Proofs.YtaabepiddbnggaaGreat.P3

theorem write_nil (w : World) (s : ByteArray) (i : Int) (data : ByteArray) : Calls Tryz.prog 18 #[.pointer none, .string s, .int .i64 i, .string data] w fun e w' => e = .returned (.int .i64 14) ∧ Below w.heap.size w w' := by
  have H := Lib.hid (fun w v => check_nil w v)
  go_enter Tryz.func18, Tryz.ntmps18
  go_wp2_with (go_at_call 86; (with_reducible refine (H.out _ _).mono ?_); rintro e w' ⟨rfl, rfl⟩)
  go_ret
  exact ⟨rfl, below_new _ _⟩
theorem read_nil (w : World) (s : ByteArray) (i : Int) : Calls Tryz.prog 21 #[.pointer none, .string s, .int .i64 i] w fun e w' => e = .returned (.tuple #[.string ⟨#[]⟩, .int .i64 14]) ∧ Below w.heap.size w w' := by
  have H := Lib.hid (fun w s => find_nil w s)
  go_enter Tryz.func21, Tryz.ntmps21
  go_wp2_with (go_at_call 95; (with_reducible refine (H.out _ _).mono ?_); rintro e w' ⟨rfl, hb⟩; have HB := Lib.hid hb; clear hb)
  go_ret2
  exact ⟨rfl, HB.out⟩
theorem sync_nil (w : World) (s : ByteArray) : Calls Tryz.prog 28 #[.pointer none, .string s] w fun e w' => e = .returned (.int .i64 14) ∧ Below w.heap.size w w' := by
  have H := Lib.hid (fun w s => find_nil w s)
  go_enter Tryz.func28, Tryz.ntmps28
  go_wp2_with (go_at_call 95; (with_reducible refine (H.out _ _).mono ?_); rintro e w' ⟨rfl, hb⟩; have HB := Lib.hid hb; clear hb)
  go_ret
  exact ⟨rfl, HB.out⟩
theorem cut_nil (w : World) (s : ByteArray) (i : Int) : Calls Tryz.prog 30 #[.pointer none, .string s, .int .i64 i] w fun e w' => e = .returned (.int .i64 14) ∧ Below w.heap.size w w' := by
  have H := Lib.hid (fun w s => find_nil w s)
  go_enter Tryz.func30, Tryz.ntmps30
  go_wp2_with (go_at_call 95; (with_reducible refine (H.out _ _).mono ?_); rintro e w' ⟨rfl, hb⟩; have HB := Lib.hid hb; clear hb)
  go_ret
  exact ⟨rfl, HB.out⟩
theorem rename_nil (w : World) (s t : ByteArray) : Calls Tryz.prog 32 #[.pointer none, .string s, .string t] w fun e w' => e = .returned (.int .i64 14) ∧ Below w.heap.size w w' := by
  have H := Lib.hid (fun w v => check_nil w v)
  go_enter Tryz.func32, Tryz.ntmps32
  go_wp2_with (go_at_call 86; (with_reducible refine (H.out _ _).mono ?_); rintro e w' ⟨rfl, rfl⟩)
  go_ret
  exact ⟨rfl, below_new _ _⟩
theorem remove_nil (w : World) (s : ByteArray) : Calls Tryz.prog 34 #[.pointer none, .string s] w fun e w' => e = .returned (.int .i64 14) ∧ Below w.heap.size w w' := by
  have H := Lib.hid (fun w s => find_nil w s)
  go_enter Tryz.func34, Tryz.ntmps34
  go_wp2_with (go_at_call 95; (with_reducible refine (H.out _ _).mono ?_); rintro e w' ⟨rfl, hb⟩; have HB := Lib.hid hb; clear hb)
  go_ret
  exact ⟨rfl, HB.out⟩
theorem list_nil (w : World) (s : ByteArray) : Calls Tryz.prog 11 #[.pointer none, .string s] w fun e w' => e = .returned (.slice none 0 0) ∧ w = w' := by
  have H := Lib.hid (fun w => on_nil w)
  go_enter Tryz.func11, Tryz.ntmps11
  go_wp2_with (go_at_call 23; (with_reducible refine (H.out _).mono ?_); rintro e w' ⟨rfl, rfl⟩)
  go_ret
  exact ⟨rfl, rfl⟩
theorem twin_nil (w : World) : Calls Tryz.prog 7 #[.pointer none] w fun e w' => e = .returned (.pointer none) ∧ w = w' := by
  go_enter Tryz.func7, Tryz.ntmps7
  go_wp2
  go_ret
  exact ⟨rfl, rfl⟩
theorem room_nil (w : World) (i : Int) : Calls Tryz.prog 42 #[.pointer none, .int .i64 i] w fun e w' => e = .returned (.tuple #[]) ∧ w = w' := by
  go_enter Tryz.func42, Tryz.ntmps42
  go_wp2
  go_end0
  exact ⟨rfl, rfl⟩
theorem crash_nil (w : World) (v : Value) : Calls Tryz.prog 19 #[.pointer none, v] w fun e w' => e = .returned (.int .i64 0) ∧ w = w' := by
  have H := Lib.hid (fun w => on_nil w)
  go_enter Tryz.func19, Tryz.ntmps19
  go_wp2_with (go_at_call 23; (with_reducible refine (H.out _).mono ?_); rintro e w' ⟨rfl, rfl⟩)
  go_ret
  exact ⟨rfl, rfl⟩
theorem crash_off (w : World) (d : Nat) (v : Value) (c1 : w.cell? ⟨d, 1, none⟩ = some (.bool false)) : Calls Tryz.prog 19 #[.pointer (some ⟨d, 0, none⟩), v] w fun e w' => e = .returned (.int .i64 0) ∧ w = w' := by
  have H := Lib.hid (on_any w d false c1)
  go_enter Tryz.func19, Tryz.ntmps19
  go_wp2_with (go_at_call 23; (with_reducible refine H.out.mono ?_); rintro e w' ⟨rfl, rfl⟩)
  go_ret
  exact ⟨rfl, rfl⟩

end Go.Proofs.YtaabepiddbnggaaGreat.P4

/-
  The law's Fill: a sector of some bytes.
-/
namespace Go.Proofs.YtaabepiddbnggaaGreat.P4
set_option maxRecDepth 20000
open Go Go.RowKit Go.Lib Go.Maps Go.ChangeMaps Go.MapKept Go.Proofs.YtaabepiddbnggaaGreat.P3

theorem infoByte4 : (Tryz.prog.info? 5).map (fun i => (i.zero, i.size, i.bytes)) = some (some (.int .u8 0), 1, 1) := by kernel_rfl
def fillAt (s : ByteArray) (i : Nat) : UInt8 := s.data.toList.getD (i % s.size) 0
def fillL (s : ByteArray) : List UInt8 := (List.range 256).map (fillAt s)
def fillB (s : ByteArray) : ByteArray := ⟨(fillL s).toArray⟩
theorem fillB_size (s : ByteArray) : (fillB s).size = 256 := by simp [fillB, fillL, ByteArray.size]
def rowB (s : ByteArray) (k : Nat) : Array Value := ((List.range 256).map fun i => Value.int .u8 (if i < k then ((fillAt s i).toNat : Int) else 0)).toArray
theorem rowB_zero (s : ByteArray) : madeCells #[.int .u8 0] 256 = rowB s 0 := by
  apply Array.ext'
  unfold rowB
  apply List.ext_getElem?
  intro i
  by_cases h : i < 256
  · simp [madeCells, h, Nat.mod_one]
  · simp [madeCells, h]
theorem rowB_step (s : ByteArray) (k : Nat) : (rowB s k).setIfInBounds k (.int .u8 ((fillAt s k).toNat : Int)) = rowB s (k + 1) := by
  apply Array.ext'
  unfold rowB
  apply List.ext_getElem?
  intro i
  by_cases h : i < 256
  · by_cases hik : k = i
    · subst hik
      simp [h]
    · have e : (i < k + 1) = (i < k) := by apply propext; omega
      simp [h, List.getElem?_set, hik, e]
  · simp [h, List.getElem?_set]
theorem rowB_nil (s : ByteArray) (hs : s.size = 0) (k : Nat) : rowB s (k + 1) = rowB s k := by
  have hl : s.data.toList = [] := List.eq_nil_of_length_eq_zero (by rw [← hs]; simp)
  have hf : ∀ i, fillAt s i = 0 := fun i => by unfold fillAt; rw [hl]; rfl
  unfold rowB
  congr 1
  apply List.map_congr_left
  intro i _
  rw [hf]
  simp
theorem rowB_full (s : ByteArray) : (rowB s 256).toList.take (fillL s).length = byteCells (fillL s) := by
  have e : (rowB s 256).toList = byteCells (fillL s) := by
    unfold rowB fillL byteCells
    rw [List.toList_toArray, List.map_map]
    apply List.map_congr_left
    intro i hi
    have : i < 256 := List.mem_range.1 hi
    simp [this]
  rw [e]
  apply List.take_of_length_le
  simp [byteCells]
theorem made_row4 (w : World) : (Instr.makeSlice 102 (.int .i64 256) (.int .i64 256)).run Tryz.prog w = .ok (.slice (some ⟨w.heap.size, 0, none⟩) 256 256) (w.alloc (.cells (madeCells #[.int .u8 0] 256) 5)) :=
  run_make_row' (P := Tryz.prog) 102 5 (.int .u8 0) 1 Tryz.underlying102 infoByte4 rfl .i64 .i64 256 (by omega) (by omega) w
theorem fill_string {w : World} {X : Nat} (s : ByteArray) (h : w.heap[X]? = some (.cells (rowB s 256) 5 (0, 0))) : (convert 102 9 (.slice (some ⟨X, 0, none⟩) 256 256)).run Tryz.prog w = .ok (.string (fillB s)) w := by
  have e := run_convert_bytes_back w 102 9 5 ⟨X, 0, none⟩ 256 (fillL s) Tryz.underlying102 Tryz.underlying5 Tryz.underlying9 (bytes_of_row h (rowB_full s))
  rw [show (fillL s).length = 256 from by simp [fillL]] at e
  exact e

theorem fill_not (w : World) (s : ByteArray) : Calls Tryz.prog 17 #[.string s, .bool false] w fun e w' => e = .returned (.string s) ∧ w = w' := by
  go_enter Tryz.func17, Tryz.ntmps17
  go_wp2
  go_ret
  exact ⟨rfl, rfl⟩
theorem fill_own (w : World) (s : ByteArray) (hs : s.size ≤ 9223372036854775807) : Calls Tryz.prog 17 #[.string s, .bool true] w fun e w' => e = .returned (.string (fillB s)) ∧ Below w.heap.size w w' := by
  have hmk : ∀ w : World, (Instr.makeSlice 102 (.int .i64 256) (.int .i64 256)).run Tryz.prog w = .ok (.slice (some ⟨w.heap.size, 0, none⟩) 256 256) (w.alloc (.cells (rowB s 0) 5)) := fun w => by rw [← rowB_zero s]; exact made_row4 w
  have hb0 : Below w.heap.size w (w.alloc (.cells (rowB s 0) 5)) := below_new _ _
  have hn0 := new_at w (rowB s 0) 5
  go_enter Tryz.func17, Tryz.ntmps17
  go_wp2
  obtain ⟨X, hX⟩ : ∃ X, X = w.heap.size := ⟨_, rfl⟩
  rw [← hX] at hb0 hn0 ⊢
  have HX := Lib.hid hX
  clear hX hmk
  go_loopw [13] (fun i wr => ∃ k : Nat, k ≤ 256 ∧ i = .int .i64 k ∧ Hid (wr.heap[X]? = some (.cells (rowB s k) 5 (0, 0))) ∧ Hid (Below X w wr)) (fun i _ => 256 - (RowKit.intOf i).toNat)
  case atStart => exact ⟨0, by omega, rfl, hn0, hb0⟩
  case round =>
    obtain ⟨k, hk, rfl, hrow, hbel⟩ := hrel
    have hnb : (0 : Int) ≤ (k : Int) := by omega
    by_cases hk2 : k = 256
    · subst hk2
      have hcv := fill_string s hrow.out
      obtain ⟨z, hz⟩ : ∃ z, z = fillB s := ⟨_, rfl⟩
      rw [← hz] at hcv
      have HZ := Lib.hid hz
      clear hz hs hn0 hb0
      go_wp2
      go_ret
      exact ⟨by rw [← HZ.out]; rfl, HX.out ▸ hbel.out⟩
    · have hlt : k < 256 := by omega
      clear hn0 hb0 hk hk2
      by_cases hs0 : s.size = 0
      · have HN : Hid (wr.heap[X]? = some (.cells (rowB s (k + 1)) 5 (0, 0))) := by rw [rowB_nil s hs0]; exact hrow
        go_wp2
        go_roundw
        case rel => exact ⟨k + 1, by omega, by go_num, HN, hbel⟩
        case measure => simp [RowKit.intOf]; omega
      · have hpos : 0 < s.size := by omega
        obtain ⟨r, hr⟩ : ∃ r, r = k % s.size := ⟨_, rfl⟩
        have hrs : r < s.size := by rw [hr]; exact Nat.mod_lt _ hpos
        have hri : (k : Int) % (s.size : Int) = (r : Int) := by rw [hr]; omega
        have hcell : wr.cell? ⟨X, k, none⟩ = some (.int .u8 0) := by
          rw [cell_at hrow.out]; simp [rowB, hlt]
        have hfree := free_at hrow.out k
        have HS := Lib.hid hs0
        have HR := Lib.hid hr
        clear hs0 hr
        go_wp2
        have hby : fillAt s k = s[r] := by
          unfold fillAt
          rw [← HR.out, List.getD_eq_getElem?_getD, List.getElem?_eq_getElem (by simpa using hrs)]
          rfl
        have HN : Hid ((wr.setCell ⟨X, k, none⟩ (.int .u8 (s[r].toNat : Int))).heap[X]? = some (.cells (rowB s (k + 1)) 5 (0, 0))) := by
          have e := set_at hrow.out k (.int .u8 (s[r].toNat : Int))
          rw [← hby, rowB_step, hby] at e
          exact e
        have HB : Hid (Below X w (wr.setCell ⟨X, k, none⟩ (.int .u8 (s[r].toNat : Int)))) := hbel.out.setCell (Nat.le_refl X) _
        go_roundw
        case rel => exact ⟨k + 1, by omega, by go_num, HN, HB⟩
        case measure => simp [RowKit.intOf]; omega

end Go.Proofs.YtaabepiddbnggaaGreat.P4

/-
  Package disk: Read, whatever is handed in. (Disk, part 31.)
-/
namespace Go.Proofs.YtaabepiddbnggaaGreat.P4
open Go Go.RowKit Go.Lib Go.Maps Go.ChangeMaps Go.MapKept Go.Proofs.YtaabepiddbnggaaGreat.P3

/-- what Read tells: the text, the error -/
def readE (K : Dk) (s : ByteArray) (i : Int) : Int :=
  if errF K.on s.size (getF K.files s.data.toList) ≠ 0 then errF K.on s.size (getF K.files s.data.toList)
  else if i < 0 ∨ (sizeN K.files s.data.toList : Int) ≤ i then 15 else 0
def nowOf (o : Option Fl) (i : Nat) : ByteArray := match o with | none => ⟨#[]⟩ | some F => match F.secs[i]? with | none => ⟨#[]⟩ | some x => x.now
def readT (K : Dk) (s : ByteArray) (i : Int) : ByteArray := if readE K s i ≠ 0 then ⟨#[]⟩ else nowOf (getF K.files s.data.toList) i.toNat
def ReadPost (w : World) (K : Dk) (s : ByteArray) (i : Int) (e : Ending) (w' : World) : Prop := e = .returned (.tuple #[.string (readT K s i), .int .i64 (readE K s i)]) ∧ Below w.heap.size w w'

theorem errF_zero {on : Bool} {n : Nat} {o : Option Fl} (h : errF on n o = 0) : errn on n = 0 ∧ ∃ F, o = some F := by
  unfold errF at h
  by_cases he : errn on n = 0
  · rw [if_pos he] at h
    cases o with
    | none => exact absurd h (by decide)
    | some F => exact ⟨he, F, rfl⟩
  · rw [if_neg he] at h
    exact absurd h he
theorem read_err {w : World} {d : Nat} (s : ByteArray) (i : Int) (v : Value) (z : Int) (hz : (z != 0) = true) (H : Hid (Calls Tryz.prog 95 #[.pointer (some ⟨d, 0, none⟩), .string s] w fun e w' => e = .returned (.tuple #[v, .int .i64 z]) ∧ Below w.heap.size w w')) :
    Calls Tryz.prog 21 #[.pointer (some ⟨d, 0, none⟩), .string s, .int .i64 i] w fun e w' => e = .returned (.tuple #[.string ⟨#[]⟩, .int .i64 z]) ∧ Below w.heap.size w w' := by
  go_enter Tryz.func21, Tryz.ntmps21
  go_wp2_with (go_at_call 95; (with_reducible refine H.out.mono ?_); rintro e w' ⟨rfl, hb⟩; have HB := Lib.hid hb; clear hb)
  go_ret2
  exact ⟨rfl, HB.out⟩
theorem read_low {w : World} {d b : Nat} (s : ByteArray) (i : Int) (hi : i < 0) (H : Hid (Calls Tryz.prog 95 #[.pointer (some ⟨d, 0, none⟩), .string s] w fun e w' => e = .returned (.tuple #[.pointer (some ⟨b, 0, none⟩), .int .i64 0]) ∧ Below w.heap.size w w')) :
    Calls Tryz.prog 21 #[.pointer (some ⟨d, 0, none⟩), .string s, .int .i64 i] w fun e w' => e = .returned (.tuple #[.string ⟨#[]⟩, .int .i64 15]) ∧ Below w.heap.size w w' := by
  go_enter Tryz.func21, Tryz.ntmps21
  go_wp2_with (go_at_call 95; (with_reducible refine H.out.mono ?_); rintro e w' ⟨rfl, hb⟩; have HB := Lib.hid hb; clear hb)
  go_ret2
  exact ⟨rfl, HB.out⟩
theorem read_high {w : World} {d b n : Nat} (s : ByteArray) (i : Int) (hi0 : ¬ i < 0) (hi : (n : Int) ≤ i) (H : Hid (Calls Tryz.prog 95 #[.pointer (some ⟨d, 0, none⟩), .string s] w fun e w' => e = .returned (.tuple #[.pointer (some ⟨b, 0, none⟩), .int .i64 0]) ∧ Below w.heap.size w w'))
    (HS : Hid (∀ W, Below w.heap.size w W → Calls Tryz.prog 87 #[.pointer (some ⟨b, 0, none⟩)] W fun e w' => e = .returned (.int .i64 n) ∧ W = w')) :
    Calls Tryz.prog 21 #[.pointer (some ⟨d, 0, none⟩), .string s, .int .i64 i] w fun e w' => e = .returned (.tuple #[.string ⟨#[]⟩, .int .i64 15]) ∧ Below w.heap.size w w' := by
  go_enter Tryz.func21, Tryz.ntmps21
  go_wp2_with (first
    | (go_at_call 95; (with_reducible refine H.out.mono ?_); rintro e w' ⟨rfl, hb⟩; have HB := Lib.hid hb; clear hb)
    | (go_at_call 87; (with_reducible refine (HS.out _ HB.out).mono ?_); rintro e w2 ⟨rfl, rfl⟩))
  go_ret2
  exact ⟨rfl, HB.out⟩
theorem read_there {w : World} {d b n g cap : Nat} (s t : ByteArray) (i : Nat) (hi : i < n) (H : Hid (Calls Tryz.prog 95 #[.pointer (some ⟨d, 0, none⟩), .string s] w fun e w' => e = .returned (.tuple #[.pointer (some ⟨b, 0, none⟩), .int .i64 0]) ∧ Below w.heap.size w w'))
    (HS : Hid (∀ W, Below w.heap.size w W → Calls Tryz.prog 87 #[.pointer (some ⟨b, 0, none⟩)] W fun e w' => e = .returned (.int .i64 n) ∧ W = w'))
    (HC : Hid (∀ W, Below w.heap.size w W → W.cell? ⟨b, 0, none⟩ = some (.slice (some ⟨g, 0, none⟩) n cap) ∧ W.cell? ⟨g, i * 3, none⟩ = some (.string t))) :
    Calls Tryz.prog 21 #[.pointer (some ⟨d, 0, none⟩), .string s, .int .i64 i] w fun e w' => e = .returned (.tuple #[.string t, .int .i64 0]) ∧ Below w.heap.size w w' := by
  have h1 : ¬ ((i : Int) < 0) := by omega
  have h2 : ¬ ((n : Int) ≤ (i : Int)) := by omega
  have h3 : (0 : Int) ≤ (i : Int) := by omega
  have h4 : (i : Int) < (n : Int) := by omega
  go_enter Tryz.func21, Tryz.ntmps21
  go_wp2_with (first
    | (go_at_call 95; (with_reducible refine H.out.mono ?_); rintro e w' ⟨rfl, hb⟩; obtain ⟨q0, q1⟩ := HC.out _ hb; have HB := Lib.hid hb; clear hb)
    | (go_at_call 87; (with_reducible refine (HS.out _ HB.out).mono ?_); rintro e w2 ⟨rfl, rfl⟩))
  go_ret2
  exact ⟨rfl, HB.out⟩
theorem DiskAt.read {w : World} {d : Nat} {K : Dk} (h : DiskAt w d K) (s : ByteArray) (i : Int) (hs : s.size ≤ maxLen) :
    Calls Tryz.prog 21 #[.pointer (some ⟨d, 0, none⟩), .string s, .int .i64 i] w (ReadPost w K s i) := by
  have HF := h.find s hs
  unfold ReadPost
  by_cases he : errF K.on s.size (getF K.files s.data.toList) ≠ 0
  · have e : readE K s i = errF K.on s.size (getF K.files s.data.toList) := by unfold readE; rw [if_pos he]
    have e2 : readT K s i = ⟨#[]⟩ := by unfold readT; rw [if_pos (by rw [e]; exact he)]
    rw [e, e2]
    obtain ⟨p, hp⟩ := ptr_shape (if errn K.on s.size = 0 then (getF K.files s.data.toList).map (·.b) else none)
    rw [hp] at HF
    exact read_err s i _ _ (by simpa using he) HF
  · have he : errF K.on s.size (getF K.files s.data.toList) = 0 := Decidable.not_not.1 he
    obtain ⟨h0, F, hF⟩ := errF_zero he
    rw [he, if_pos h0, hF] at HF
    have hm := getF_mem hF
    have hz : sizeN K.files s.data.toList = F.secs.length := by unfold sizeN; rw [hF]
    have hfl := h.files.at' _ hm
    have HS : Hid (∀ W, Below w.heap.size w W → Calls Tryz.prog 87 #[.pointer (some ⟨F.b, 0, none⟩)] W fun e w' => e = .returned (.int .i64 F.secs.length) ∧ W = w') := fun W hW => (hfl.below hW).size
    have e0 : readE K s i = if i < 0 ∨ (F.secs.length : Int) ≤ i then 15 else 0 := by unfold readE; rw [if_neg (by simpa using he), hz]
    by_cases hi : i < 0 ∨ (F.secs.length : Int) ≤ i
    · rw [if_pos hi] at e0
      have e2 : readT K s i = ⟨#[]⟩ := by unfold readT; rw [if_pos (by rw [e0]; decide)]
      rw [e0, e2]
      by_cases h1 : i < 0
      · exact read_low s i h1 HF
      · exact read_high s i h1 (by omega) HF HS
    · rw [if_neg hi] at e0
      obtain ⟨j, rfl⟩ : ∃ j : Nat, i = (j : Int) := ⟨i.toNat, by omega⟩
      have hj : j < F.secs.length := by omega
      have e2 : readT K s j = F.secs[j].now := by unfold readT nowOf; rw [if_neg (by rw [e0]; decide), hF, Int.toNat_natCast]; simp [hj]
      rw [e0, e2]
      obtain ⟨g, cap2, _, hg, _⟩ := owns_some hfl.row (by omega : 0 < F.secs.length)
      refine read_there (g := g) (cap := cap2) s _ j hj HF HS (fun W hW => ?_)
      have hW2 := hfl.below hW
      refine ⟨(cell_at hW2.blk 0).trans (by rw [← hg]; rfl), ?_⟩
      have hr := hW2.row
      rw [hg] at hr
      exact owns_cell hr (secs_at F.secs j F.secs[j] (by simp [hj])).1

end Go.Proofs.YtaabepiddbnggaaGreat.P4

/-
  A disk as the document has it: names and files; what a crash, a Write, a look make of it. No program. (Disk, abstract.)
-/
namespace Go.Proofs.YtaabepiddbnggaaGreat.P4
open Go Go.RowKit Go.Lib Go.Maps Go.ChangeMaps Go.MapKept Go.Proofs.YtaabepiddbnggaaGreat.P3

abbrev AL := List (List UInt8 × AF)
def absL (L : Files) : AL := L.map absP
def wsA (A : AL) : List (Nat × Nat × ByteArray) := A.flatMap (·.2.ws)
theorem wsA_abs (L : Files) : wsA (absL L) = (allW L).map Wr.abs := by
  unfold wsA absL allW
  rw [List.flatMap_map, List.map_flatMap]
  rfl
theorem wsA_perm {A B : AL} (h : A.Perm B) : (wsA A).Perm (wsA B) := h.flatMap_right _
def rankA (l : List (Nat × Nat × ByteArray)) (t : Nat) : Nat := (l.filter (fun x => decide (x.1 < t))).length
def keptA (A : AL) (ks : List Int) (t : Nat) : Nat := clampI (ks.getD (rankA (wsA A) t) 0)
theorem keptA_abs (L : Files) (ks : List Int) : keptOf (allW L) ks = keptA (absL L) ks := by
  funext t
  unfold keptOf keptA rankA rankW
  rw [wsA_abs, List.filter_map, List.length_map]
  rfl
theorem keptA_perm {A B : AL} (h : A.Perm B) (ks : List Int) : keptA A ks = keptA B ks := by
  funext t
  unfold keptA rankA
  rw [((wsA_perm h).filter _).length_eq]
def lostA (κ : Nat → Nat) (A : AL) : Nat := ((wsA A).filter (fun x => decide (κ x.1 < 256))).length
theorem lostA_abs (κ : Nat → Nat) (L : Files) : lostN κ (allW L) = lostA κ (absL L) := by
  unfold lostN lostA
  rw [wsA_abs, List.filter_map, List.length_map]
  rfl
theorem lostA_perm {A B : AL} (h : A.Perm B) (κ : Nat → Nat) : lostA κ A = lostA κ B := ((wsA_perm h).filter _).length_eq
def tripA (κ : Nat → Nat) (x : Nat × Nat × ByteArray) : Nat × Nat × ByteArray := (κ x.1, x.2.1, x.2.2)
/-- what a crash leaves of a file -/
def crA (κ : Nat → Nat) (p : List UInt8 × AF) : Option (List UInt8 × AF) :=
  if (p.2.made || decide (0 < (keepAll p.2.safe (p.2.ws.map (tripA κ))).length)) = true then some (p.1, p.2.crash (p.2.ws.map (tripA κ))) else none
theorem crP_mark {p : List UInt8 × Fl} (h : FileOk p.2) {κ : Nat → Nat} {T : List Nat} (hT : ∀ x ∈ p.2.ws, x.turn ∈ T) : crP (p.1, markF κ T p.2) = crA κ (absP p) := by
  have e1 : (markF κ T p.2).ws.map Wr.trip = p.2.abs.ws.map (tripA κ) := by
    show (p.2.ws.map (markW κ T)).map Wr.trip = (p.2.ws.map Wr.abs).map (tripA κ)
    rw [List.map_map, List.map_map]
    apply List.map_congr_left
    intro x hx
    show ((if x.turn ∈ T then κ x.turn else 0), x.pos, x.data) = _
    rw [if_pos (hT x hx)]
    rfl
  have e2 := (size_left (mark_ok κ T h)).2
  rw [e1] at e2
  unfold crP crA
  show (if ((markF κ T p.2).stays || decide (0 < (markF κ T p.2).left)) = true then _ else none) = _
  rw [e2, e1]
  rfl
theorem filterMap_same {α β : Type} {f g : α → Option β} : ∀ {l : List α}, (∀ x ∈ l, f x = g x) → l.filterMap f = l.filterMap g
  | [], _ => rfl
  | x :: r, h => by
    rw [List.filterMap_cons, List.filterMap_cons, h x (by simp), filterMap_same (fun y hy => h y (by simp [hy]))]
theorem crash_list {L : Files} (h : ∀ p ∈ L, FileOk p.2) (κ : Nat → Nat) : (markL κ ((allW L).map (·.turn)) L).filterMap crP = (absL L).filterMap (crA κ) := by
  unfold markL absL
  rw [List.filterMap_map, List.filterMap_map]
  apply filterMap_same
  intro p hp
  exact crP_mark (h p hp) (fun x hx => List.mem_map_of_mem (allW_mem.2 ⟨p, hp, hx⟩))

/-- the file of a name -/
def getA (A : AL) (n : List UInt8) : Option AF := (A.find? (·.1 == n)).map (·.2)
theorem getA_abs (L : Files) (n : List UInt8) : getA (absL L) n = (getF L n).map Fl.abs := by
  unfold getA getF absL
  rw [List.find?_map, Option.map_map, Option.map_map]
  rfl
theorem getA_mem {A : AL} {n : List UInt8} {F : AF} (h : getA A n = some F) : (n, F) ∈ A := by
  unfold getA at h
  obtain ⟨⟨n', F'⟩, h1, rfl⟩ := Option.map_eq_some_iff.1 h
  have h2 := List.mem_of_find?_eq_some h1
  have h3 := List.find?_some h1
  obtain rfl : n' = n := by simpa using h3
  exact h2
theorem getA_some : ∀ {A : AL} {n : List UInt8} {F : AF}, (A.map (·.1)).Nodup → (n, F) ∈ A → getA A n = some F
  | [], _, _, _, h => by simp at h
  | (m, G) :: r, n, F, hn, h => by
    unfold getA
    by_cases e : m = n
    · subst e
      rw [List.find?_cons_of_pos (by simp)]
      rcases List.mem_cons.1 h with h | h
      · cases h; rfl
      · exact absurd (List.mem_map_of_mem (f := (·.1)) h) (List.nodup_cons.1 hn).1
    · rw [List.find?_cons_of_neg (by simpa using e)]
      rcases List.mem_cons.1 h with h | h
      · cases h; exact absurd rfl e
      · exact getA_some (List.nodup_cons.1 hn).2 h
theorem getA_perm {A B : AL} (hn : (A.map (·.1)).Nodup) (hp : A.Perm B) (n : List UInt8) : getA A n = getA B n := by
  have hn2 : (B.map (·.1)).Nodup := (hp.map _).nodup_iff.1 hn
  cases h : getA B n with
  | some F => exact getA_some hn (hp.mem_iff.2 (getA_mem h))
  | none =>
    cases h2 : getA A n with
    | none => rfl
    | some F =>
      rw [getA_some hn2 (hp.mem_iff.1 (getA_mem h2))] at h
      cases h
def restA (A : AL) (n : List UInt8) : AL := A.filter (fun p => p.1 != n)
theorem rest_abs (L : Files) (n : List UInt8) : absL (restF L n) = restA (absL L) n := by
  unfold absL restF restA
  rw [List.filter_map]
  rfl
theorem restA_perm {A B : AL} (h : A.Perm B) (n : List UInt8) : (restA A n).Perm (restA B n) := h.filter _
def sizeA (A : AL) (n : List UInt8) : Nat := match getA A n with | none => 0 | some F => F.now.length
theorem size_abs (L : Files) (n : List UInt8) : sizeN L n = sizeA (absL L) n := by
  unfold sizeN sizeA
  rw [getA_abs]
  cases getF L n with
  | none => rfl
  | some F => simp [Fl.abs]
def nowA (o : Option AF) (i : Nat) : ByteArray := match o with | none => ⟨#[]⟩ | some F => F.now.getD i ⟨#[]⟩
theorem now_abs (L : Files) (n : List UInt8) (i : Nat) : nowOf (getF L n) i = nowA (getA (absL L) n) i := by
  rw [getA_abs]
  cases getF L n with
  | none => rfl
  | some F =>
    show (match F.secs[i]? with | none => _ | some x => x.now) = (F.secs.map (·.now)).getD i ⟨#[]⟩
    rw [List.getD_eq_getElem?_getD, List.getElem?_map]
    cases F.secs[i]? <;> rfl

/-- the disk at block d is, as the document has it, A -/
structure DA (w : World) (d : Nat) (K : Dk) (A : AL) : Prop where
  at' : DiskAt w d K
  abs : (absL K.files).Perm A
theorem absL_names (L : Files) : (absL L).map (·.1) = L.map (·.1) := by unfold absL; rw [List.map_map]; rfl
theorem DA.names {w : World} {d : Nat} {K : Dk} {A : AL} (h : DA w d K A) : (A.map (·.1)).Nodup := (h.abs.map _).nodup_iff.1 (by rw [absL_names]; exact h.at'.files.names)
theorem DA.get {w : World} {d : Nat} {K : Dk} {A : AL} (h : DA w d K A) (n : List UInt8) : (getF K.files n).map Fl.abs = getA A n := by
  rw [← getA_abs]
  exact getA_perm (by rw [absL_names]; exact h.at'.files.names) h.abs n
theorem DA.getNone {w : World} {d : Nat} {K : Dk} {A : AL} (h : DA w d K A) (n : List UInt8) : getF K.files n = none ↔ getA A n = none := by
  rw [← h.get]; simp
theorem DA.size {w : World} {d : Nat} {K : Dk} {A : AL} (h : DA w d K A) (n : List UInt8) : sizeN K.files n = sizeA A n := by
  unfold sizeA; rw [← h.get]; unfold sizeN
  cases getF K.files n with
  | none => rfl
  | some F => simp [Fl.abs]
theorem DA.now {w : World} {d : Nat} {K : Dk} {A : AL} (h : DA w d K A) (n : List UInt8) (i : Nat) : nowOf (getF K.files n) i = nowA (getA A n) i := by
  rw [now_abs, getA_abs, h.get]
theorem DA.below {w w' : World} {d : Nat} {K : Dk} {A : AL} (h : DA w d K A) (hb : Below w.heap.size w w') : DA w' d K A := ⟨h.at'.below hb, h.abs⟩
theorem Written.abs {w : World} {d : Nat} {K : Dk} {A : AL} (h : DA w d K A) {n : List UInt8} {i : Nat} {data : ByteArray} {K1 : Dk} (hw : Written K n i data K1) :
    (absL K1.files).Perm ((n, ((getA A n).getD ⟨[], [], false, []⟩).write (K.turn + 1) i data) :: restA A n) := by
  obtain ⟨m, sl, b, F, hF, rfl⟩ := hw
  have hok : FileOk F := by
    rcases hF with hF | ⟨_, b0, rfl⟩
    · exact h.at'.files.ok _ (getF_mem hF)
    · exact fresh_ok b0
  have he : (getA A n).getD ⟨[], [], false, []⟩ = F.abs := by
    rw [← h.get]
    rcases hF with hF | ⟨hF, b0, rfl⟩
    · rw [hF]; rfl
    · rw [hF]; rfl
  show (absP (n, F.write sl b (K.turn + 1) i data) :: absL (restF K.files n)).Perm _
  unfold absP
  rw [Fl.write_abs F hok, rest_abs, he]
  exact (restA_perm h.abs n).cons _
theorem Written.same {K K1 : Dk} {n : List UInt8} {i : Nat} {data : ByteArray} (hw : Written K n i data K1) : K1 = { K with m := K1.m, files := K1.files, turn := K.turn + 1 } := by
  obtain ⟨m, sl, b, F, hF, rfl⟩ := hw
  rfl
theorem Crashed.absA {w w' : World} {d : Nat} {K K' : Dk} {A : AL} {ks : List Int} {z : Int} (h : DA w d K A) (hc : Crashed w d K ks z K' w') : z = (lostA (keptA A ks) A : Nat) ∧ DA w' d K' (A.filterMap (crA (keptA A ks))) := by
  have e1 := hc.lost
  have e2 := hc.abs
  rw [keptA_abs, keptA_perm h.abs] at e1 e2
  rw [lostA_abs, lostA_perm h.abs] at e1
  rw [crash_list h.at'.files.ok] at e2
  exact ⟨e1, hc.at', e2.trans (h.abs.filterMap _)⟩

end Go.Proofs.YtaabepiddbnggaaGreat.P4
