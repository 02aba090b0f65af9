/-
  Texts of the proof of SaidKeeps8, side by side: Dk29, Dk30, Fill4.
-/
import Derived.Test.YtbkngnjkaledlaaGreatMk20
import Derived.Deep.OwnRows
import Derived.Lib.BufferRead
import Derived.Laws.IdiomStrings
/-
  Package disk: Write, whatever is handed in; New, Read, Restore. (Disk, part 29.)
-/
namespace Go.Proofs.YtbkngnjkaledlaaGreat.P4
open Go Go.RowKit Go.Lib Go.Maps Go.ChangeMaps Go.MapKept Go.Proofs.YtbkngnjkaledlaaGreat.P3

theorem DiskAt.create {w : World} {d : Nat} {K : Dk} (h : DiskAt w d K) (s : ByteArray) (hg : getF K.files s.data.toList = none) (hlen : K.files.length < 60) (hs : s.size ≤ 40) :
    Calls Tryz.prog 95 #[.pointer (some ⟨d, 0, none⟩), .string s] w fun e w' => ∃ b m, e = .returned (.pointer (some ⟨b, 0, none⟩)) ∧ Step w d K w' { K with m := m, files := (s.data.toList, Fl.fresh b) :: K.files } := by
  have hn : (s.data.toList).length ≤ 40 := by rw [← Lib.size_eq]; exact hs
  have hpost : ∀ (m : Option Nat) (e : Ending) (w' : World), K.m = m → MadePost w d (dir K.files) s.data.toList m e w' → ∃ b m, e = .returned (.pointer (some ⟨b, 0, none⟩)) ∧ Step w d K w' { K with m := m, files := (s.data.toList, Fl.fresh b) :: K.files } := by
    rintro m e w' hm ⟨b, b2, rfl, h1, h2, h3, h4, h5, h6, h7⟩
    exact ⟨b, some b2, rfl, h.made hg hlen hn h1 h2 h3 (by rw [hm]; exact h4) (by rw [hm]; exact h6) (h7 _ h.blk)⟩
  cases hm : K.m with
  | some b =>
    have hmap := h.map
    rw [hm] at hmap
    exact (create_some w d b s (dir K.files) h.blk (by show some (Value.map K.m) = _; rw [hm]) hmap (by rw [dir_names]; exact h.files.names) (by have := h.files.few; simp [dir]; omega) (by omega)).mono fun e w' hp => hpost _ e w' hm hp
  | none =>
    have hL : dir K.files = [] := by
      have hmap := h.map
      rw [hm] at hmap
      rcases hmap with ⟨_, h2⟩ | ⟨b, D, h2, _⟩
      · exact h2
      · cases h2
    refine (create_none w d s h.blk (by show some (Value.map K.m) = _; rw [hm]) (by omega)).mono fun e w' hp => hpost none e w' hm ?_
    rw [hL]
    exact hp
theorem errn_size {on : Bool} {n : Nat} (h : errn on n = 0) : 1 ≤ n ∧ n ≤ 40 := by
  have hon := errn_on h
  subst hon
  unfold errn at h
  rw [if_neg (by decide)] at h
  by_cases hc : n < 1 ∨ 40 < n
  · rw [if_pos hc] at h; exact absurd h (by decide)
  · omega

theorem DiskAt.write {w : World} {d : Nat} {K : Dk} (h : DiskAt w d K) (s : ByteArray) (i : Int) (data : ByteArray) (hs : s.size ≤ maxLen) (hl : K.left ≤ 9223372036854775807) (ht : K.turn < 9000) :
    Calls Tryz.prog 41 #[.pointer (some ⟨d, 0, none⟩), .string s, .int .i64 i, .string data] w (WritePost w d K s i data) := by
  by_cases he : errn K.on s.size ≠ 0
  · have e : writeE K s i data.size = errn K.on s.size := by unfold writeE; rw [if_pos he]
    exact (write_err1 h s i data he).mono fun e' w' ⟨h1, h2⟩ => .inl ⟨by rw [e]; exact he, by rw [e]; exact h1, h2⟩
  have he : errn K.on s.size = 0 := Decidable.not_not.1 he
  have hon := errn_on he
  obtain ⟨hs1, hs2⟩ := errn_size he
  obtain ⟨p, hp⟩ := ptr_shape ((getF K.files s.data.toList).map (·.b))
  have hW := h.wfacts s he hs hp
  by_cases hd : data.size ≠ 256
  · have e : writeE K s i data.size = 1 := by unfold writeE; rw [if_neg (by simpa using he), if_pos hd]
    exact (write_err2 s i data hW hd).mono fun e' w' ⟨h1, h2⟩ => .inl ⟨by rw [e]; decide, by rw [e]; exact h1, h2⟩
  have hd : data.size = 256 := Decidable.not_not.1 hd
  by_cases hi : i < 0 ∨ (sizeN K.files s.data.toList : Int) < i ∨ 4000 < i
  · have e : writeE K s i data.size = 15 := by unfold writeE; rw [if_neg (by simpa using he), if_neg (by simpa using hd), if_pos hi]
    exact (write_err3 s i data hW hd hi).mono fun e' w' ⟨h1, h2⟩ => .inl ⟨by rw [e]; decide, by rw [e]; exact h1, h2⟩
  obtain ⟨j, rfl⟩ : ∃ j : Nat, i = (j : Int) := ⟨i.toNat, by omega⟩
  have hj : j ≤ sizeN K.files s.data.toList := by omega
  have hj2 : j ≤ 4000 := by omega
  have e0 : writeE K s j data.size = if (j : Int) = (sizeN K.files s.data.toList : Int) ∧ fullOf K = true then 20 else if getF K.files s.data.toList = none ∧ 60 ≤ K.files.length then 20 else 0 := by
    unfold writeE; rw [if_neg (by simpa using he), if_neg (by simpa using hd), if_neg hi]
  by_cases hf : (j : Int) = (sizeN K.files s.data.toList : Int) ∧ fullOf K = true
  · rw [if_pos hf] at e0
    have hjz : j = sizeN K.files s.data.toList := by omega
    rw [hjz] at hj2 ⊢
    rw [hjz] at e0
    exact (write_err4 h s data hW hd hj2 hf.2).mono fun e' w' ⟨h1, h2⟩ => .inl ⟨by rw [e0]; decide, by rw [e0]; exact h1, h2⟩
  rw [if_neg hf] at e0
  have hok : ∀ e w', OkPost w d K s.data.toList j data e w' → writeE K s j data.size = 0 → WritePost w d K s j data e w' := fun e w' hp h0 => .inr ⟨h0, by rw [Int.toNat_natCast]; exact hp⟩
  cases hg : getF K.files s.data.toList with
  | none =>
    have hz : sizeN K.files s.data.toList = 0 := by unfold sizeN; rw [hg]
    rw [hz] at hj hW hf
    obtain rfl : j = 0 := by omega
    have hfu : fullOf K = false := by
      cases hfu : fullOf K with
      | false => rfl
      | true => exact absurd ⟨rfl, hfu⟩ hf
    have hp2 : p = none := by rw [hg] at hp; simpa [ptr] using hp.symm
    subst hp2
    by_cases h60 : 60 ≤ K.files.length
    · rw [if_pos ⟨hg, h60⟩] at e0
      exact (write_err5 h s data hW hd hfu h60).mono fun e' w' ⟨h1, h2⟩ => .inl ⟨by rw [e0]; decide, by rw [e0]; exact h1, h2⟩
    · rw [if_neg (fun hx => h60 hx.2)] at e0
      refine (write_fresh h s data hW hd hfu (by omega) ht (fun W hWb => ?_)).mono fun e w' hp => hok e w' hp e0
      refine ((h.below hWb).create s hg (by omega) hs2).mono ?_
      rintro e w' ⟨b, m, rfl, hst⟩
      have hst2 : Step w d K w' { K with m := m, files := (s.data.toList, Fl.fresh b) :: K.files } := (Step.below h hWb).trans hst
      have hre : restF ((s.data.toList, Fl.fresh b) :: K.files) s.data.toList = restF K.files s.data.toList := by
        unfold restF
        rw [List.filter_cons_of_neg (by simp)]
      exact ⟨b, rfl, DiskAt.wend (F := Fl.fresh b) hst2 ⟨m, _, rfl, hre⟩ (by simp) (.inr ⟨hg, b, rfl⟩) (Nat.zero_le _) hj2 hd hon hl ht⟩
  | some F =>
    have hz : sizeN K.files s.data.toList = F.secs.length := by unfold sizeN; rw [hg]
    rw [if_neg (fun hx => by rw [hg] at hx; cases hx.1)] at e0
    have hp2 : p = some ⟨F.b, 0, none⟩ := by rw [hg] at hp; simpa [ptr] using hp.symm
    subst hp2
    have hm := getF_mem hg
    have hE : ∀ W0, Below w.heap.size w W0 → WEnd w d K s.data.toList j data F.b W0 := fun W0 hW0 =>
      DiskAt.wend (F := F) (Step.below h hW0) ⟨K.m, K.files, rfl, rfl⟩ hm (.inl hg) (by omega) hj2 hd hon hl ht
    by_cases hjz : j = sizeN K.files s.data.toList
    · have hfu : fullOf K = false := by
        cases hfu : fullOf K with
        | false => rfl
        | true => exact absurd ⟨by omega, hfu⟩ hf
      subst hjz
      exact (write_behind h s F.b data hW hd hj2 hfu ht hE).mono fun e w' hp => hok e w' hp e0
    · exact (write_over s j F.b data hW hd (by omega) hj2 ht (hE _ (below_new _ _))).mono fun e w' hp => hok e w' hp e0

theorem new_disk (w : World) (room : Int) : Calls Tryz.prog 7 #[.int .i64 room] w fun e w' => e = .returned (.pointer (some ⟨w.heap.size, 0, none⟩)) ∧ Below w.heap.size w w' ∧ w'.heap[w.heap.size]? = some (.cells #[.map none, .bool true, .int .i64 room, .int .i64 0, .bool false, .int .i64 0, .slice none 0 0] 73 (0, 0)) := by
  go_enter Tryz.func7, Tryz.ntmps7
  go_wp2
  go_ret
  exact ⟨rfl, below_new _ _, heap_alloc_new w _⟩
def Dk.new (room : Int) : Dk := ⟨none, [], true, room, 0, false, 0, .slice none 0 0, []⟩
theorem new_at_disk {w : World} {d : Nat} {room : Int} (h : w.heap[d]? = some (.cells #[.map none, .bool true, .int .i64 room, .int .i64 0, .bool false, .int .i64 0, .slice none 0 0] 73 (0, 0))) : DiskAt w d (Dk.new room) :=
  ⟨h, World.ownsRow_nil _ _ _ _, .inl ⟨rfl, rfl⟩, ⟨fun p hp => by simp [Dk.new] at hp, fun p hp => by simp [Dk.new] at hp, List.nodup_nil, List.Pairwise.nil, Nat.zero_le _, fun p hp => by simp [Dk.new] at hp, List.nodup_nil⟩, fun x hx => by simp [Dk.new, allW] at hx, fun x hx => by simp [Dk.new, allW] at hx, ⟨Nat.le_refl _, by simp [Dk.new]⟩⟩

theorem DiskAt.restore {w : World} {d : Nat} {K : Dk} (h : DiskAt w d K) : Calls Tryz.prog 29 #[.pointer (some ⟨d, 0, none⟩)] w fun e w' => e = .returned (.tuple #[]) ∧ Step w d K w' { K with on := true } := by
  have c1 := cell_at h.blk 1
  have c1 : w.cell? ⟨d, 1, none⟩ = some (.bool K.on) := c1
  have f1 := free_at h.blk 1
  have HS : Hid (Step w d K (w.setCell ⟨d, 1, none⟩ (.bool true)) { K with on := true }) := .own h ((Only.refl d w).setCell 1 _) (set_at h.blk 1 _) rfl rfl ⟨rfl, rfl⟩ (Nat.le_refl _) h.many.2
  clear h
  go_enter Tryz.func29, Tryz.ntmps29
  go_wp2
  go_end0
  exact ⟨rfl, HS.out⟩
theorem restore_nil (w : World) : Calls Tryz.prog 29 #[.pointer none] w fun e w' => e = .returned (.tuple #[]) ∧ w = w' := by
  go_enter Tryz.func29, Tryz.ntmps29
  go_wp2
  go_end0
  exact ⟨rfl, rfl⟩

end Go.Proofs.YtbkngnjkaledlaaGreat.P4

/-
  Package disk: Read; a nil disk. (Disk, part 30.)
-/
namespace Go.Proofs.YtbkngnjkaledlaaGreat.P4
open Go Go.RowKit Go.Lib Go.Maps Go.ChangeMaps Go.MapKept Go.Proofs.YtbkngnjkaledlaaGreat.P3

theorem write_nil (w : World) (s : ByteArray) (i : Int) (data : ByteArray) : Calls Tryz.prog 41 #[.pointer none, .string s, .int .i64 i, .string data] w fun e w' => e = .returned (.int .i64 14) ∧ Below w.heap.size w w' := by
  have H := Lib.hid (fun w v => check_nil w v)
  go_enter Tryz.func41, Tryz.ntmps41
  go_wp2_with (go_at_call 92; (with_reducible refine (H.out _ _).mono ?_); rintro e w' ⟨rfl, rfl⟩)
  go_ret
  exact ⟨rfl, below_new _ _⟩
theorem read_nil (w : World) (s : ByteArray) (i : Int) : Calls Tryz.prog 65 #[.pointer none, .string s, .int .i64 i] w fun e w' => e = .returned (.tuple #[.string ⟨#[]⟩, .int .i64 14]) ∧ Below w.heap.size w w' := by
  have H := Lib.hid (fun w s => find_nil w s)
  go_enter Tryz.func65, Tryz.ntmps65
  go_wp2_with (go_at_call 98; (with_reducible refine (H.out _ _).mono ?_); rintro e w' ⟨rfl, hb⟩; have HB := Lib.hid hb; clear hb)
  go_ret2
  exact ⟨rfl, HB.out⟩
theorem sync_nil (w : World) (s : ByteArray) : Calls Tryz.prog 50 #[.pointer none, .string s] w fun e w' => e = .returned (.int .i64 14) ∧ Below w.heap.size w w' := by
  have H := Lib.hid (fun w s => find_nil w s)
  go_enter Tryz.func50, Tryz.ntmps50
  go_wp2_with (go_at_call 98; (with_reducible refine (H.out _ _).mono ?_); rintro e w' ⟨rfl, hb⟩; have HB := Lib.hid hb; clear hb)
  go_ret
  exact ⟨rfl, HB.out⟩
theorem cut_nil (w : World) (s : ByteArray) (i : Int) : Calls Tryz.prog 53 #[.pointer none, .string s, .int .i64 i] w fun e w' => e = .returned (.int .i64 14) ∧ Below w.heap.size w w' := by
  have H := Lib.hid (fun w s => find_nil w s)
  go_enter Tryz.func53, Tryz.ntmps53
  go_wp2_with (go_at_call 98; (with_reducible refine (H.out _ _).mono ?_); rintro e w' ⟨rfl, hb⟩; have HB := Lib.hid hb; clear hb)
  go_ret
  exact ⟨rfl, HB.out⟩
theorem rename_nil (w : World) (s t : ByteArray) : Calls Tryz.prog 55 #[.pointer none, .string s, .string t] w fun e w' => e = .returned (.int .i64 14) ∧ Below w.heap.size w w' := by
  have H := Lib.hid (fun w v => check_nil w v)
  go_enter Tryz.func55, Tryz.ntmps55
  go_wp2_with (go_at_call 92; (with_reducible refine (H.out _ _).mono ?_); rintro e w' ⟨rfl, rfl⟩)
  go_ret
  exact ⟨rfl, below_new _ _⟩
theorem remove_nil (w : World) (s : ByteArray) : Calls Tryz.prog 57 #[.pointer none, .string s] w fun e w' => e = .returned (.int .i64 14) ∧ Below w.heap.size w w' := by
  have H := Lib.hid (fun w s => find_nil w s)
  go_enter Tryz.func57, Tryz.ntmps57
  go_wp2_with (go_at_call 98; (with_reducible refine (H.out _ _).mono ?_); rintro e w' ⟨rfl, hb⟩; have HB := Lib.hid hb; clear hb)
  go_ret
  exact ⟨rfl, HB.out⟩
theorem list_nil (w : World) (s : ByteArray) : Calls Tryz.prog 74 #[.pointer none, .string s] w fun e w' => e = .returned (.slice none 0 0) ∧ w = w' := by
  have H := Lib.hid (fun w => on_nil w)
  go_enter Tryz.func74, Tryz.ntmps74
  go_wp2_with (go_at_call 31; (with_reducible refine (H.out _).mono ?_); rintro e w' ⟨rfl, rfl⟩)
  go_ret
  exact ⟨rfl, rfl⟩
theorem room_nil (w : World) (i : Int) : Calls Tryz.prog 64 #[.pointer none, .int .i64 i] w fun e w' => e = .returned (.tuple #[]) ∧ w = w' := by
  go_enter Tryz.func64, Tryz.ntmps64
  go_wp2
  go_end0
  exact ⟨rfl, rfl⟩
theorem crash_nil (w : World) (v : Value) : Calls Tryz.prog 25 #[.pointer none, v] w fun e w' => e = .returned (.int .i64 0) ∧ w = w' := by
  have H := Lib.hid (fun w => on_nil w)
  go_enter Tryz.func25, Tryz.ntmps25
  go_wp2_with (go_at_call 31; (with_reducible refine (H.out _).mono ?_); rintro e w' ⟨rfl, rfl⟩)
  go_ret
  exact ⟨rfl, rfl⟩
theorem crash_off (w : World) (d : Nat) (v : Value) (c1 : w.cell? ⟨d, 1, none⟩ = some (.bool false)) : Calls Tryz.prog 25 #[.pointer (some ⟨d, 0, none⟩), v] w fun e w' => e = .returned (.int .i64 0) ∧ w = w' := by
  have H := Lib.hid (on_any w d false c1)
  go_enter Tryz.func25, Tryz.ntmps25
  go_wp2_with (go_at_call 31; (with_reducible refine H.out.mono ?_); rintro e w' ⟨rfl, rfl⟩)
  go_ret
  exact ⟨rfl, rfl⟩

end Go.Proofs.YtbkngnjkaledlaaGreat.P4

/-
  The law's Fill: a sector of some bytes.
-/
namespace Go.Proofs.YtbkngnjkaledlaaGreat.P4
set_option maxRecDepth 20000
open Go Go.RowKit Go.Lib Go.Maps Go.ChangeMaps Go.MapKept Go.Proofs.YtbkngnjkaledlaaGreat.P3

theorem infoByte4 : (Tryz.prog.info? 5).map (fun i => (i.zero, i.size, i.bytes)) = some (some (.int .u8 0), 1, 1) := by kernel_rfl
def fillAt (s : ByteArray) (i : Nat) : UInt8 := s.data.toList.getD (i % s.size) 0
def fillL (s : ByteArray) : List UInt8 := (List.range 256).map (fillAt s)
def fillB (s : ByteArray) : ByteArray := ⟨(fillL s).toArray⟩
theorem fillB_size (s : ByteArray) : (fillB s).size = 256 := by simp [fillB, fillL, ByteArray.size]
def rowB (s : ByteArray) (k : Nat) : Array Value := ((List.range 256).map fun i => Value.int .u8 (if i < k then ((fillAt s i).toNat : Int) else 0)).toArray
theorem rowB_zero (s : ByteArray) : madeCells #[.int .u8 0] 256 = rowB s 0 := by
  apply Array.ext'
  unfold rowB
  apply List.ext_getElem?
  intro i
  by_cases h : i < 256
  · simp [madeCells, h, Nat.mod_one]
  · simp [madeCells, h]
theorem rowB_step (s : ByteArray) (k : Nat) : (rowB s k).setIfInBounds k (.int .u8 ((fillAt s k).toNat : Int)) = rowB s (k + 1) := by
  apply Array.ext'
  unfold rowB
  apply List.ext_getElem?
  intro i
  by_cases h : i < 256
  · by_cases hik : k = i
    · subst hik
      simp [h]
    · have e : (i < k + 1) = (i < k) := by apply propext; omega
      simp [h, List.getElem?_set, hik, e]
  · simp [h, List.getElem?_set]
theorem rowB_nil (s : ByteArray) (hs : s.size = 0) (k : Nat) : rowB s (k + 1) = rowB s k := by
  have hl : s.data.toList = [] := List.eq_nil_of_length_eq_zero (by rw [← hs]; simp)
  have hf : ∀ i, fillAt s i = 0 := fun i => by unfold fillAt; rw [hl]; rfl
  unfold rowB
  congr 1
  apply List.map_congr_left
  intro i _
  rw [hf]
  simp
theorem rowB_full (s : ByteArray) : (rowB s 256).toList.take (fillL s).length = byteCells (fillL s) := by
  have e : (rowB s 256).toList = byteCells (fillL s) := by
    unfold rowB fillL byteCells
    rw [List.toList_toArray, List.map_map]
    apply List.map_congr_left
    intro i hi
    have : i < 256 := List.mem_range.1 hi
    simp [this]
  rw [e]
  apply List.take_of_length_le
  simp [byteCells]
theorem made_row4 (w : World) : (Instr.makeSlice 141 (.int .i64 256) (.int .i64 256)).run Tryz.prog w = .ok (.slice (some ⟨w.heap.size, 0, none⟩) 256 256) (w.alloc (.cells (madeCells #[.int .u8 0] 256) 5)) :=
  run_make_row' (P := Tryz.prog) 141 5 (.int .u8 0) 1 Tryz.underlying141 infoByte4 rfl .i64 .i64 256 (by omega) (by omega) w
theorem fill_string {w : World} {X : Nat} (s : ByteArray) (h : w.heap[X]? = some (.cells (rowB s 256) 5 (0, 0))) : (convert 141 9 (.slice (some ⟨X, 0, none⟩) 256 256)).run Tryz.prog w = .ok (.string (fillB s)) w := by
  have e := run_convert_bytes_back w 141 9 5 ⟨X, 0, none⟩ 256 (fillL s) Tryz.underlying141 Tryz.underlying5 Tryz.underlying9 (bytes_of_row h (rowB_full s))
  rw [show (fillL s).length = 256 from by simp [fillL]] at e
  exact e

theorem fill_not (w : World) (s : ByteArray) : Calls Tryz.prog 52 #[.string s, .bool false] w fun e w' => e = .returned (.string s) ∧ w = w' := by
  go_enter Tryz.func52, Tryz.ntmps52
  go_wp2
  go_ret
  exact ⟨rfl, rfl⟩
theorem fill_own (w : World) (s : ByteArray) (hs : s.size ≤ 9223372036854775807) : Calls Tryz.prog 52 #[.string s, .bool true] w fun e w' => e = .returned (.string (fillB s)) ∧ Below w.heap.size w w' := by
  have hmk : ∀ w : World, (Instr.makeSlice 141 (.int .i64 256) (.int .i64 256)).run Tryz.prog w = .ok (.slice (some ⟨w.heap.size, 0, none⟩) 256 256) (w.alloc (.cells (rowB s 0) 5)) := fun w => by rw [← rowB_zero s]; exact made_row4 w
  have hb0 : Below w.heap.size w (w.alloc (.cells (rowB s 0) 5)) := below_new _ _
  have hn0 := new_at w (rowB s 0) 5
  go_enter Tryz.func52, Tryz.ntmps52
  go_wp2
  obtain ⟨X, hX⟩ : ∃ X, X = w.heap.size := ⟨_, rfl⟩
  rw [← hX] at hb0 hn0 ⊢
  have HX := Lib.hid hX
  clear hX hmk
  go_loopw [13] (fun i wr => ∃ k : Nat, k ≤ 256 ∧ i = .int .i64 k ∧ Hid (wr.heap[X]? = some (.cells (rowB s k) 5 (0, 0))) ∧ Hid (Below X w wr)) (fun i _ => 256 - (RowKit.intOf i).toNat)
  case atStart => exact ⟨0, by omega, rfl, hn0, hb0⟩
  case round =>
    obtain ⟨k, hk, rfl, hrow, hbel⟩ := hrel
    have hnb : (0 : Int) ≤ (k : Int) := by omega
    by_cases hk2 : k = 256
    · subst hk2
      have hcv := fill_string s hrow.out
      obtain ⟨z, hz⟩ : ∃ z, z = fillB s := ⟨_, rfl⟩
      rw [← hz] at hcv
      have HZ := Lib.hid hz
      clear hz hs hn0 hb0
      go_wp2
      go_ret
      exact ⟨by rw [← HZ.out]; rfl, HX.out ▸ hbel.out⟩
    · have hlt : k < 256 := by omega
      clear hn0 hb0 hk hk2
      by_cases hs0 : s.size = 0
      · have HN : Hid (wr.heap[X]? = some (.cells (rowB s (k + 1)) 5 (0, 0))) := by rw [rowB_nil s hs0]; exact hrow
        go_wp2
        go_roundw
        case rel => exact ⟨k + 1, by omega, by go_num, HN, hbel⟩
        case measure => simp [RowKit.intOf]; omega
      · have hpos : 0 < s.size := by omega
        obtain ⟨r, hr⟩ : ∃ r, r = k % s.size := ⟨_, rfl⟩
        have hrs : r < s.size := by rw [hr]; exact Nat.mod_lt _ hpos
        have hri : (k : Int) % (s.size : Int) = (r : Int) := by rw [hr]; omega
        have hcell : wr.cell? ⟨X, k, none⟩ = some (.int .u8 0) := by
          rw [cell_at hrow.out]; simp [rowB, hlt]
        have hfree := free_at hrow.out k
        have HS := Lib.hid hs0
        have HR := Lib.hid hr
        clear hs0 hr
        go_wp2
        have hby : fillAt s k = s[r] := by
          unfold fillAt
          rw [← HR.out, List.getD_eq_getElem?_getD, List.getElem?_eq_getElem (by simpa using hrs)]
          rfl
        have HN : Hid ((wr.setCell ⟨X, k, none⟩ (.int .u8 (s[r].toNat : Int))).heap[X]? = some (.cells (rowB s (k + 1)) 5 (0, 0))) := by
          have e := set_at hrow.out k (.int .u8 (s[r].toNat : Int))
          rw [← hby, rowB_step, hby] at e
          exact e
        have HB : Hid (Below X w (wr.setCell ⟨X, k, none⟩ (.int .u8 (s[r].toNat : Int)))) := hbel.out.setCell (Nat.le_refl X) _
        go_roundw
        case rel => exact ⟨k + 1, by omega, by go_num, HN, HB⟩
        case measure => simp [RowKit.intOf]; omega

end Go.Proofs.YtbkngnjkaledlaaGreat.P4
