/-
  Package disk: Write: the walk. (Disk, part 26.)
-/
import Derived.Test.YtlgloikhdbmgdaaDk25
namespace Go.Proofs.Ytlgloikhdbmgdaa.P4
open Go Go.RowKit Go.Lib Go.Maps Go.ChangeMaps Go.MapKept Go.Proofs.Ytlgloikhdbmgdaa.P3

def sizeN (L : Files) (n : List UInt8) : Nat := match getF L n with | none => 0 | some F => F.secs.length
/-- what stands against a Write -/
def writeE (K : Dk) (s : ByteArray) (i : Int) (dsz : Nat) : Int :=
  if errn K.on s.size ≠ 0 then errn K.on s.size
  else if dsz ≠ 256 then 1
  else if i < 0 ∨ (sizeN K.files s.data.toList : Int) < i ∨ 4000 < i then 15
  else if i = (sizeN K.files s.data.toList : Int) ∧ fullOf K = true then 20
  else if getF K.files s.data.toList = none ∧ 60 ≤ K.files.length then 20
  else 0
/-- the disk behind a Write, ahead of the count -/
def Written (K : Dk) (n : List UInt8) (i : Nat) (data : ByteArray) (K1 : Dk) : Prop :=
  ∃ m sl b F, (getF K.files n = some F ∨ getF K.files n = none ∧ ∃ b0, F = Fl.fresh b0) ∧ K1 = { K with m := m, turn := K.turn + 1, files := (n, F.write sl b (K.turn + 1) i data) :: restF K.files n }
def WritePost (w : World) (d : Nat) (K : Dk) (s : ByteArray) (i : Int) (data : ByteArray) (e : Ending) (w' : World) : Prop :=
  (writeE K s i data.size ≠ 0 ∧ e = .returned (.int .i64 (writeE K s i data.size)) ∧ Below w.heap.size w w') ∨
  (writeE K s i data.size = 0 ∧ ∃ w1 K1, Step w d K w1 K1 ∧ Written K s.data.toList i.toNat data K1 ∧ CountPost w1 d K1 e w')

set_option maxRecDepth 100000 in
set_option maxHeartbeats 2000000 in
theorem write_err1 {w : World} {d : Nat} {K : Dk} (h : DiskAt w d K) (s : ByteArray) (i : Int) (data : ByteArray) (he : errn K.on s.size ≠ 0) :
    Calls Try.prog 10 #[.pointer (some ⟨d, 0, none⟩), .string s, .int .i64 i, .string data] w fun e w' => e = .returned (.int .i64 (errn K.on s.size)) ∧ Below w.heap.size w w' := by
  have hd := lt_of_block h.blk
  have HC : Hid (Calls Try.prog 31 #[.pointer (some ⟨d, 0, none⟩), .slice (some ⟨w.heap.size, 0, none⟩) 1 1] (w.alloc (.cells #[.string s] 9)) fun e w' => e = .returned (.int .i64 (errn K.on s.size)) ∧ w.alloc (.cells #[.string s] 9) = w') :=
    check1 _ d w.heap.size s K.on (cell_at (old_alloc h.blk _) 1) (by rw [cell_at (new_at w _ _)]; rfl)
  have hne : (errn K.on s.size != 0) = true := by simpa using he
  generalize errn K.on s.size = z at *
  clear h he
  go_enter Try.func10, Try.ntmps10
  go_wp2_with (go_at_call 31; (with_reducible refine HC.out.mono ?_); rintro e w' ⟨rfl, rfl⟩)
  go_ret
  exact ⟨rfl, below_new _ _⟩

/-- what the walk needs behind the check -/
structure WFacts (w : World) (d : Nat) (K : Dk) (s : ByteArray) (p : Option Addr) (z : Nat) : Prop where
  check : Calls Try.prog 31 #[.pointer (some ⟨d, 0, none⟩), .slice (some ⟨w.heap.size, 0, none⟩) 1 1] (w.alloc (.cells #[.string s] 9)) fun e w' => e = .returned (.int .i64 0) ∧ w.alloc (.cells #[.string s] 9) = w'
  c0 : (w.alloc (.cells #[.string s] 9)).cell? ⟨d, 0, none⟩ = some (.map K.m)
  look : (Instr.lookup 56 (.map K.m) (.string s) false).run Try.prog (w.alloc (.cells #[.string s] 9)) = .ok (.pointer p) (w.alloc (.cells #[.string s] 9))
  size : Calls Try.prog 32 #[.pointer p] (w.alloc (.cells #[.string s] 9)) fun e w' => e = .returned (.int .i64 z) ∧ w.alloc (.cells #[.string s] 9) = w'
theorem DiskAt.wfacts {w : World} {d : Nat} {K : Dk} (h : DiskAt w d K) (s : ByteArray) (he : errn K.on s.size = 0) (hs : s.size ≤ maxLen) {p : Option Addr} (hp : ptr ((getF K.files s.data.toList).map (·.b)) = .pointer p) : WFacts w d K s p (sizeN K.files s.data.toList) := by
  have hb := below_new w (.cells #[.string s] 9)
  have h2 := h.below hb
  refine ⟨?_, cell_at h2.blk 0, ?_, ?_⟩
  · have := check1 (w.alloc (.cells #[.string s] 9)) d w.heap.size s K.on (cell_at h2.blk 1) (by rw [cell_at (new_at w _ _)]; rfl)
    rw [he] at this
    exact this
  · rw [← hp, ← lk_dir]
    exact h2.map.look (by rw [dir_names]; exact h.files.names) hs
  · rw [← hp]
    exact size_file h2.files.at' s.data.toList

set_option maxRecDepth 100000 in
set_option maxHeartbeats 2000000 in
theorem write_err2 {w : World} {d : Nat} {K : Dk} (s : ByteArray) (i : Int) (data : ByteArray) {p : Option Addr} {z : Nat} (h : WFacts w d K s p z) (hd : data.size ≠ 256) :
    Calls Try.prog 10 #[.pointer (some ⟨d, 0, none⟩), .string s, .int .i64 i, .string data] w fun e w' => e = .returned (.int .i64 1) ∧ Below w.heap.size w w' := by
  have HC := Lib.hid h.check
  have HS := Lib.hid h.size
  have c0 := h.c0
  have hl := h.look
  have k1 : ((data.size : Int) != 256) = true := by simp; omega
  clear h
  go_enter Try.func10, Try.ntmps10
  go_wp2_with (first
    | (go_at_call 31; (with_reducible refine HC.out.mono ?_); rintro e w' ⟨rfl, rfl⟩)
    | (go_at_call 32; (with_reducible refine HS.out.mono ?_); rintro e w' ⟨rfl, rfl⟩))
  go_ret
  exact ⟨rfl, below_new _ _⟩

set_option maxRecDepth 100000 in
set_option maxHeartbeats 2000000 in
theorem write_err3 {w : World} {d : Nat} {K : Dk} (s : ByteArray) (i : Int) (data : ByteArray) {p : Option Addr} {z : Nat} (h : WFacts w d K s p z) (hd : data.size = 256) (hi : i < 0 ∨ (z : Int) < i ∨ 4000 < i) :
    Calls Try.prog 10 #[.pointer (some ⟨d, 0, none⟩), .string s, .int .i64 i, .string data] w fun e w' => e = .returned (.int .i64 15) ∧ Below w.heap.size w w' := by
  have HC := Lib.hid h.check
  have HS := Lib.hid h.size
  have c0 := h.c0
  have hl := h.look
  have k1 : ((data.size : Int) != 256) = false := by simp; omega
  clear h hd
  by_cases h1 : i < 0
  · have q1 : decide (i < 0) = true := decide_eq_true h1
    go_enter Try.func10, Try.ntmps10
    go_wp2_with (first
      | (go_at_call 31; (with_reducible refine HC.out.mono ?_); rintro e w' ⟨rfl, rfl⟩)
      | (go_at_call 32; (with_reducible refine HS.out.mono ?_); rintro e w' ⟨rfl, rfl⟩))
    go_ret
    exact ⟨rfl, below_new _ _⟩
  · have q1 : decide (i < 0) = false := decide_eq_false h1
    by_cases h2 : (z : Int) < i
    · have q2 : decide ((z : Int) < i) = true := decide_eq_true h2
      go_enter Try.func10, Try.ntmps10
      go_wp2_with (first
        | (go_at_call 31; (with_reducible refine HC.out.mono ?_); rintro e w' ⟨rfl, rfl⟩)
        | (go_at_call 32; (with_reducible refine HS.out.mono ?_); rintro e w' ⟨rfl, rfl⟩))
      go_ret
      exact ⟨rfl, below_new _ _⟩
    · have q2 : decide ((z : Int) < i) = false := decide_eq_false h2
      have h3 : 4000 < i := by omega
      have q3 : decide (4000 < i) = true := decide_eq_true h3
      go_enter Try.func10, Try.ntmps10
      go_wp2_with (first
        | (go_at_call 31; (with_reducible refine HC.out.mono ?_); rintro e w' ⟨rfl, rfl⟩)
        | (go_at_call 32; (with_reducible refine HS.out.mono ?_); rintro e w' ⟨rfl, rfl⟩))
      go_ret
      exact ⟨rfl, below_new _ _⟩

end Go.Proofs.Ytlgloikhdbmgdaa.P4
