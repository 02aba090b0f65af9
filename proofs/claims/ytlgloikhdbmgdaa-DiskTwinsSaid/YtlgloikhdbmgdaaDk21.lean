/-
  Package disk: what stands against a call; the file of a name; Size, Read. (Disk, part 21.)
-/
import Derived.Test.YtlgloikhdbmgdaaDk19
namespace Go.Proofs.Ytlgloikhdbmgdaa.P4
open Go Go.RowKit Go.Lib Go.Maps Go.ChangeMaps Go.MapKept Go.Proofs.Ytlgloikhdbmgdaa.P3

/-- what stands against a call of that name -/
def errn (on : Bool) (n : Nat) : Int := if on = false then 14 else if n < 1 ∨ 40 < n then 1 else 0

theorem check_nil (w : World) (v : Value) : Calls Try.prog 31 #[.pointer none, v] w fun e w' => e = .returned (.int .i64 14) ∧ w = w' := by
  have H := Lib.hid (fun w => on_nil w)
  go_enter Try.func31, Try.ntmps31
  go_wp2_with (go_at_call 20; (with_reducible refine (H.out _).mono ?_); rintro e w' ⟨rfl, rfl⟩)
  go_ret
  exact ⟨rfl, rfl⟩
theorem check_off (w : World) (d : Nat) (v : Value) (c1 : w.cell? ⟨d, 1, none⟩ = some (.bool false)) : Calls Try.prog 31 #[.pointer (some ⟨d, 0, none⟩), v] w fun e w' => e = .returned (.int .i64 14) ∧ w = w' := by
  have H := Lib.hid (on_any w d false c1)
  go_enter Try.func31, Try.ntmps31
  go_wp2_with (go_at_call 20; (with_reducible refine H.out.mono ?_); rintro e w' ⟨rfl, rfl⟩)
  go_ret
  exact ⟨rfl, rfl⟩
theorem check_bad (w : World) (d B : Nat) (s : ByteArray) (n : Nat) (hn : 0 < n) (c1 : w.cell? ⟨d, 1, none⟩ = some (.bool true)) (b0 : w.cell? ⟨B, 0, none⟩ = some (.string s)) (hs : s.size < 1 ∨ 40 < s.size) : Calls Try.prog 31 #[.pointer (some ⟨d, 0, none⟩), .slice (some ⟨B, 0, none⟩) n n] w fun e w' => e = .returned (.int .i64 1) ∧ w = w' := by
  have H := Lib.hid (on_any w d true c1)
  have b1 : (0 : Int) < (n : Int) := by omega
  rcases hs with hs | hs
  · go_enter Try.func31, Try.ntmps31
    go_wp2_with (go_at_call 20; (with_reducible refine H.out.mono ?_); rintro e w' ⟨rfl, rfl⟩)
    go_loop [12] (fun i => i = .int .i64 0) (fun _ => 0)
    case atStart => rfl
    case round =>
      subst hrel
      go_wp2
      go_ret
      exact ⟨rfl, rfl⟩
  · have h1 : ¬ s.size < 1 := by omega
    have h2 : 1 ≤ s.size := by omega
    go_enter Try.func31, Try.ntmps31
    go_wp2_with (go_at_call 20; (with_reducible refine H.out.mono ?_); rintro e w' ⟨rfl, rfl⟩)
    go_loop [12] (fun i => i = .int .i64 0) (fun _ => 0)
    case atStart => rfl
    case round =>
      subst hrel
      go_wp2
      go_ret
      exact ⟨rfl, rfl⟩
theorem check_ok (w : World) (d B : Nat) (s : ByteArray) (c1 : w.cell? ⟨d, 1, none⟩ = some (.bool true)) (b0 : w.cell? ⟨B, 0, none⟩ = some (.string s)) (h1 : 1 ≤ s.size) (h2 : s.size ≤ 40) : Calls Try.prog 31 #[.pointer (some ⟨d, 0, none⟩), .slice (some ⟨B, 0, none⟩) 1 1] w fun e w' => e = .returned (.int .i64 0) ∧ w = w' := by
  have H := Lib.hid (on_any w d true c1)
  have h3 : ¬ s.size < 1 := by omega
  have h4 : ¬ 40 < s.size := by omega
  go_enter Try.func31, Try.ntmps31
  go_wp2_with (go_at_call 20; (with_reducible refine H.out.mono ?_); rintro e w' ⟨rfl, rfl⟩)
  go_loop [12] (fun i => i = .int .i64 0 ∨ i = .int .i64 1) (fun i => (1 - intOf i).toNat)
  case atStart => exact .inl rfl
  case round =>
    rcases hrel with rfl | rfl
    · go_wp2
      go_round
      case rel => exact .inr rfl
      case measure => simp [intOf]
    · go_wp2
      go_ret
      exact ⟨rfl, rfl⟩
theorem check1 (w : World) (d B : Nat) (s : ByteArray) (on : Bool) (c1 : w.cell? ⟨d, 1, none⟩ = some (.bool on)) (b0 : w.cell? ⟨B, 0, none⟩ = some (.string s)) : Calls Try.prog 31 #[.pointer (some ⟨d, 0, none⟩), .slice (some ⟨B, 0, none⟩) 1 1] w fun e w' => e = .returned (.int .i64 (errn on s.size)) ∧ w = w' := by
  cases on with
  | false => exact check_off w d _ c1
  | true =>
    unfold errn
    rw [if_neg (by decide)]
    by_cases hs : s.size < 1 ∨ 40 < s.size
    · rw [if_pos hs]
      exact check_bad w d B s 1 (by omega) c1 b0 hs
    · rw [if_neg hs]
      exact check_ok w d B s c1 b0 (by omega) (by omega)

theorem find_nil (w : World) (s : ByteArray) : Calls Try.prog 38 #[.pointer none, .string s] w fun e w' => e = .returned (.tuple #[.pointer none, .int .i64 14]) ∧ Below w.heap.size w w' := by
  have H := Lib.hid (fun w v => check_nil w v)
  go_enter Try.func38, Try.ntmps38
  go_wp2_with (go_at_call 31; (with_reducible refine (H.out _ _).mono ?_); rintro e w' ⟨rfl, rfl⟩)
  go_ret2
  exact ⟨rfl, below_new _ _⟩
theorem find_err (w : World) (d : Nat) (s : ByteArray) (on : Bool) (c1 : w.cell? ⟨d, 1, none⟩ = some (.bool on)) (e0 : Int) (he : errn on s.size = e0) (hne : (e0 != 0) = true) (hd : d < w.heap.size) :
    Calls Try.prog 38 #[.pointer (some ⟨d, 0, none⟩), .string s] w fun e w' => e = .returned (.tuple #[.pointer none, .int .i64 e0]) ∧ Below w.heap.size w w' := by
  have H := check1 (w.alloc (.cells #[.string s] 9)) d w.heap.size s on (by rw [← c1]; exact (heap_ext (Below.heap_alloc _ _ _ hd) 1).1) (by rw [cell_at (new_at w _ _)]; rfl)
  rw [he] at H
  have HH := Lib.hid H
  clear H he
  go_enter Try.func38, Try.ntmps38
  go_wp2_with (go_at_call 31; (with_reducible refine HH.out.mono ?_); rintro e w' ⟨rfl, rfl⟩)
  go_ret2
  exact ⟨rfl, below_new _ _⟩
theorem find_none (w : World) (d : Nat) (s : ByteArray) (m : Option Nat) (c0 : w.cell? ⟨d, 0, none⟩ = some (.map m)) (c1 : w.cell? ⟨d, 1, none⟩ = some (.bool true)) (he : errn true s.size = 0) (hd : d < w.heap.size)
    (hlk : ∀ W, Below w.heap.size w W → (Instr.lookup 56 (.map m) (.string s) false).run Try.prog W = .ok (.pointer none) W) :
    Calls Try.prog 38 #[.pointer (some ⟨d, 0, none⟩), .string s] w fun e w' => e = .returned (.tuple #[.pointer none, .int .i64 8]) ∧ Below w.heap.size w w' := by
  have H := check1 (w.alloc (.cells #[.string s] 9)) d w.heap.size s true (by rw [← c1]; exact (heap_ext (Below.heap_alloc _ _ _ hd) 1).1) (by rw [cell_at (new_at w _ _)]; rfl)
  rw [he] at H
  have HH := Lib.hid H
  have hl := hlk _ (below_new w (.cells #[.string s] 9))
  have q0 : (w.alloc (.cells #[.string s] 9)).cell? ⟨d, 0, none⟩ = some (.map m) := by rw [← c0]; exact (heap_ext (Below.heap_alloc _ _ _ hd) 0).1
  clear H he hlk
  go_enter Try.func38, Try.ntmps38
  go_wp2_with (go_at_call 31; (with_reducible refine HH.out.mono ?_); rintro e w' ⟨rfl, rfl⟩)
  go_ret2
  exact ⟨rfl, below_new _ _⟩
theorem find_some (w : World) (d b : Nat) (s : ByteArray) (m : Option Nat) (c0 : w.cell? ⟨d, 0, none⟩ = some (.map m)) (c1 : w.cell? ⟨d, 1, none⟩ = some (.bool true)) (he : errn true s.size = 0) (hd : d < w.heap.size)
    (hlk : ∀ W, Below w.heap.size w W → (Instr.lookup 56 (.map m) (.string s) false).run Try.prog W = .ok (.pointer (some ⟨b, 0, none⟩)) W) :
    Calls Try.prog 38 #[.pointer (some ⟨d, 0, none⟩), .string s] w fun e w' => e = .returned (.tuple #[.pointer (some ⟨b, 0, none⟩), .int .i64 0]) ∧ Below w.heap.size w w' := by
  have H := check1 (w.alloc (.cells #[.string s] 9)) d w.heap.size s true (by rw [← c1]; exact (heap_ext (Below.heap_alloc _ _ _ hd) 1).1) (by rw [cell_at (new_at w _ _)]; rfl)
  rw [he] at H
  have HH := Lib.hid H
  have hl := hlk _ (below_new w (.cells #[.string s] 9))
  have q0 : (w.alloc (.cells #[.string s] 9)).cell? ⟨d, 0, none⟩ = some (.map m) := by rw [← c0]; exact (heap_ext (Below.heap_alloc _ _ _ hd) 0).1
  clear H he hlk
  go_enter Try.func38, Try.ntmps38
  go_wp2_with (go_at_call 31; (with_reducible refine HH.out.mono ?_); rintro e w' ⟨rfl, rfl⟩)
  go_ret2
  exact ⟨rfl, below_new _ _⟩

/-- the file of a name -/
def getF (L : Files) (n : List UInt8) : Option Fl := (L.find? (·.1 == n)).map (·.2)
theorem getF_mem {L : Files} {n : List UInt8} {F : Fl} (h : getF L n = some F) : (n, F) ∈ L := by
  unfold getF at h
  obtain ⟨⟨n', F'⟩, h1, rfl⟩ := Option.map_eq_some_iff.1 h
  have h2 := List.mem_of_find?_eq_some h1
  have h3 := List.find?_some h1
  obtain rfl : n' = n := by simpa using h3
  exact h2
theorem lk_dir (L : Files) (n : List UInt8) : lk (dir L) n = (getF L n).map (·.b) := by
  unfold lk getF dir
  rw [List.find?_map, Option.map_map, Option.map_map]
  rfl
/-- what find tells: the file, the error -/
def errF (on : Bool) (n : Nat) (o : Option Fl) : Int := if errn on n = 0 then (match o with | none => 8 | some _ => 0) else errn on n

theorem errn_on {on : Bool} {n : Nat} (h : errn on n = 0) : on = true := by
  unfold errn at h
  cases on with
  | true => rfl
  | false => simp at h
theorem DiskAt.find {w : World} {d : Nat} {K : Dk} (h : DiskAt w d K) (s : ByteArray) (hs : s.size ≤ maxLen) :
    Calls Try.prog 38 #[.pointer (some ⟨d, 0, none⟩), .string s] w fun e w' =>
      e = .returned (.tuple #[ptr (if errn K.on s.size = 0 then (getF K.files s.data.toList).map (·.b) else none), .int .i64 (errF K.on s.size (getF K.files s.data.toList))]) ∧ Below w.heap.size w w' := by
  have c0 : w.cell? ⟨d, 0, none⟩ = some (.map K.m) := cell_at h.blk 0
  have c1 : w.cell? ⟨d, 1, none⟩ = some (.bool K.on) := cell_at h.blk 1
  have hd := lt_of_block h.blk
  unfold errF
  by_cases he : errn K.on s.size = 0
  · rw [if_pos he, if_pos he]
    have hon := errn_on he
    have hlk : ∀ W, Below w.heap.size w W → (Instr.lookup 56 (.map K.m) (.string s) false).run Try.prog W = .ok (ptr ((getF K.files s.data.toList).map (·.b))) W := fun W hW => by
      rw [← lk_dir]
      exact (h.map.fr (S := fun _ => False) (.of hW) (fun _ _ => id)).look (by rw [dir_names]; exact h.files.names) hs
    rw [hon] at c1 he
    cases hg : getF K.files s.data.toList with
    | none =>
      rw [hg] at hlk
      exact find_none w d s K.m c0 c1 he hd hlk
    | some F =>
      rw [hg] at hlk
      exact find_some w d F.b s K.m c0 c1 he hd hlk
  · rw [if_neg he, if_neg he]
    exact find_err w d s K.on c1 _ rfl (by simpa using he) hd

theorem size_file {w : World} {L : Files} (h : FilesAt w L) (n : List UInt8) : Calls Try.prog 32 #[ptr ((getF L n).map (·.b))] w fun e w' => e = .returned (.int .i64 (match getF L n with | none => 0 | some F => F.secs.length : Nat)) ∧ w = w' := by
  cases hg : getF L n with
  | none => exact size_nil w
  | some F => exact (h _ (getF_mem hg)).size
/-- Size: how many sectors, the error -/
def sizeF (on : Bool) (n : Nat) (o : Option Fl) : Nat := if errn on n = 0 then (match o with | none => 0 | some F => F.secs.length) else 0
theorem DiskAt.sizeOf {w : World} {d : Nat} {K : Dk} (h : DiskAt w d K) (s : ByteArray) (hs : s.size ≤ maxLen) :
    Calls Try.prog 15 #[.pointer (some ⟨d, 0, none⟩), .string s] w fun e w' => e = .returned (.tuple #[.int .i64 (sizeF K.on s.size (getF K.files s.data.toList)), .int .i64 (errF K.on s.size (getF K.files s.data.toList))]) ∧ Below w.heap.size w w' := by
  have HF := h.find s hs
  have HS : Hid (∀ W, Below w.heap.size w W → Calls Try.prog 32 #[ptr (if errn K.on s.size = 0 then (getF K.files s.data.toList).map (·.b) else none)] W fun e w' => e = .returned (.int .i64 (sizeF K.on s.size (getF K.files s.data.toList))) ∧ W = w') := by
    intro W hW
    unfold sizeF
    by_cases he : errn K.on s.size = 0
    · rw [if_pos he, if_pos he]
      exact size_file (fun p hp => (h.files.at' p hp).below hW) s.data.toList
    · rw [if_neg he, if_neg he]
      exact size_nil W
  obtain ⟨p, hp⟩ := ptr_shape (if errn K.on s.size = 0 then (getF K.files s.data.toList).map (·.b) else none)
  rw [hp] at HF HS
  generalize sizeF K.on s.size (getF K.files s.data.toList) = z at *
  generalize errF K.on s.size (getF K.files s.data.toList) = y at *
  have HF := Lib.hid HF
  clear h hs hp
  go_enter Try.func15, Try.ntmps15
  go_wp2_with (first
    | (go_at_call 38; (with_reducible refine HF.out.mono ?_); rintro e w1 ⟨rfl, hb⟩; have HB := Lib.hid hb; clear hb)
    | (go_at_call 32; (with_reducible refine (HS.out _ HB.out).mono ?_); rintro e w2 ⟨rfl, rfl⟩))
  go_ret2
  exact ⟨rfl, HB.out⟩
theorem size_dnil (w : World) (s : ByteArray) : Calls Try.prog 15 #[.pointer none, .string s] w fun e w' => e = .returned (.tuple #[.int .i64 0, .int .i64 14]) ∧ Below w.heap.size w w' := by
  have HF := Lib.hid (find_nil w s)
  have HS := Lib.hid (fun w => size_nil w)
  go_enter Try.func15, Try.ntmps15
  go_wp2_with (first
    | (go_at_call 38; (with_reducible refine HF.out.mono ?_); rintro e w1 ⟨rfl, hb⟩; have HB := Lib.hid hb; clear hb)
    | (go_at_call 32; (with_reducible refine (HS.out _).mono ?_); rintro e w2 ⟨rfl, rfl⟩))
  go_ret2
  exact ⟨rfl, HB.out⟩

end Go.Proofs.Ytlgloikhdbmgdaa.P4
