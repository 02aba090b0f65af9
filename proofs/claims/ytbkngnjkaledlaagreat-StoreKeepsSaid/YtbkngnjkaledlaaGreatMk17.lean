/-
  Texts of the proof of SaidKeeps8, side by side: Dk21, Dk22.
-/
import Derived.Test.YtbkngnjkaledlaaGreatMk16
/-
  Package disk: what stands against a call; the file of a name; Size, Read. (Disk, part 21.)
-/
namespace Go.Proofs.YtbkngnjkaledlaaGreat.P4
open Go Go.RowKit Go.Lib Go.Maps Go.ChangeMaps Go.MapKept Go.Proofs.YtbkngnjkaledlaaGreat.P3

/-- what stands against a call of that name -/
def errn (on : Bool) (n : Nat) : Int := if on = false then 14 else if n < 1 ∨ 40 < n then 1 else 0

theorem check_nil (w : World) (v : Value) : Calls Tryz.prog 92 #[.pointer none, v] w fun e w' => e = .returned (.int .i64 14) ∧ w = w' := by
  have H := Lib.hid (fun w => on_nil w)
  go_enter Tryz.func92, Tryz.ntmps92
  go_wp2_with (go_at_call 31; (with_reducible refine (H.out _).mono ?_); rintro e w' ⟨rfl, rfl⟩)
  go_ret
  exact ⟨rfl, rfl⟩
theorem check_off (w : World) (d : Nat) (v : Value) (c1 : w.cell? ⟨d, 1, none⟩ = some (.bool false)) : Calls Tryz.prog 92 #[.pointer (some ⟨d, 0, none⟩), v] w fun e w' => e = .returned (.int .i64 14) ∧ w = w' := by
  have H := Lib.hid (on_any w d false c1)
  go_enter Tryz.func92, Tryz.ntmps92
  go_wp2_with (go_at_call 31; (with_reducible refine H.out.mono ?_); rintro e w' ⟨rfl, rfl⟩)
  go_ret
  exact ⟨rfl, rfl⟩
theorem check_bad (w : World) (d B : Nat) (s : ByteArray) (n : Nat) (hn : 0 < n) (c1 : w.cell? ⟨d, 1, none⟩ = some (.bool true)) (b0 : w.cell? ⟨B, 0, none⟩ = some (.string s)) (hs : s.size < 1 ∨ 40 < s.size) : Calls Tryz.prog 92 #[.pointer (some ⟨d, 0, none⟩), .slice (some ⟨B, 0, none⟩) n n] w fun e w' => e = .returned (.int .i64 1) ∧ w = w' := by
  have H := Lib.hid (on_any w d true c1)
  have b1 : (0 : Int) < (n : Int) := by omega
  rcases hs with hs | hs
  · go_enter Tryz.func92, Tryz.ntmps92
    go_wp2_with (go_at_call 31; (with_reducible refine H.out.mono ?_); rintro e w' ⟨rfl, rfl⟩)
    go_loop [12] (fun i => i = .int .i64 0) (fun _ => 0)
    case atStart => rfl
    case round =>
      subst hrel
      go_wp2
      go_ret
      exact ⟨rfl, rfl⟩
  · have h1 : ¬ s.size < 1 := by omega
    have h2 : 1 ≤ s.size := by omega
    go_enter Tryz.func92, Tryz.ntmps92
    go_wp2_with (go_at_call 31; (with_reducible refine H.out.mono ?_); rintro e w' ⟨rfl, rfl⟩)
    go_loop [12] (fun i => i = .int .i64 0) (fun _ => 0)
    case atStart => rfl
    case round =>
      subst hrel
      go_wp2
      go_ret
      exact ⟨rfl, rfl⟩
theorem check_ok (w : World) (d B : Nat) (s : ByteArray) (c1 : w.cell? ⟨d, 1, none⟩ = some (.bool true)) (b0 : w.cell? ⟨B, 0, none⟩ = some (.string s)) (h1 : 1 ≤ s.size) (h2 : s.size ≤ 40) : Calls Tryz.prog 92 #[.pointer (some ⟨d, 0, none⟩), .slice (some ⟨B, 0, none⟩) 1 1] w fun e w' => e = .returned (.int .i64 0) ∧ w = w' := by
  have H := Lib.hid (on_any w d true c1)
  have h3 : ¬ s.size < 1 := by omega
  have h4 : ¬ 40 < s.size := by omega
  go_enter Tryz.func92, Tryz.ntmps92
  go_wp2_with (go_at_call 31; (with_reducible refine H.out.mono ?_); rintro e w' ⟨rfl, rfl⟩)
  go_loop [12] (fun i => i = .int .i64 0 ∨ i = .int .i64 1) (fun i => (1 - intOf i).toNat)
  case atStart => exact .inl rfl
  case round =>
    rcases hrel with rfl | rfl
    · go_wp2
      go_round
      case rel => exact .inr rfl
      case measure => simp [intOf]
    · go_wp2
      go_ret
      exact ⟨rfl, rfl⟩
theorem check1 (w : World) (d B : Nat) (s : ByteArray) (on : Bool) (c1 : w.cell? ⟨d, 1, none⟩ = some (.bool on)) (b0 : w.cell? ⟨B, 0, none⟩ = some (.string s)) : Calls Tryz.prog 92 #[.pointer (some ⟨d, 0, none⟩), .slice (some ⟨B, 0, none⟩) 1 1] w fun e w' => e = .returned (.int .i64 (errn on s.size)) ∧ w = w' := by
  cases on with
  | false => exact check_off w d _ c1
  | true =>
    unfold errn
    rw [if_neg (by decide)]
    by_cases hs : s.size < 1 ∨ 40 < s.size
    · rw [if_pos hs]
      exact check_bad w d B s 1 (by omega) c1 b0 hs
    · rw [if_neg hs]
      exact check_ok w d B s c1 b0 (by omega) (by omega)

theorem find_nil (w : World) (s : ByteArray) : Calls Tryz.prog 98 #[.pointer none, .string s] w fun e w' => e = .returned (.tuple #[.pointer none, .int .i64 14]) ∧ Below w.heap.size w w' := by
  have H := Lib.hid (fun w v => check_nil w v)
  go_enter Tryz.func98, Tryz.ntmps98
  go_wp2_with (go_at_call 92; (with_reducible refine (H.out _ _).mono ?_); rintro e w' ⟨rfl, rfl⟩)
  go_ret2
  exact ⟨rfl, below_new _ _⟩
theorem find_err (w : World) (d : Nat) (s : ByteArray) (on : Bool) (c1 : w.cell? ⟨d, 1, none⟩ = some (.bool on)) (e0 : Int) (he : errn on s.size = e0) (hne : (e0 != 0) = true) (hd : d < w.heap.size) :
    Calls Tryz.prog 98 #[.pointer (some ⟨d, 0, none⟩), .string s] w fun e w' => e = .returned (.tuple #[.pointer none, .int .i64 e0]) ∧ Below w.heap.size w w' := by
  have H := check1 (w.alloc (.cells #[.string s] 9)) d w.heap.size s on (by rw [← c1]; exact (heap_ext (Below.heap_alloc _ _ _ hd) 1).1) (by rw [cell_at (new_at w _ _)]; rfl)
  rw [he] at H
  have HH := Lib.hid H
  clear H he
  go_enter Tryz.func98, Tryz.ntmps98
  go_wp2_with (go_at_call 92; (with_reducible refine HH.out.mono ?_); rintro e w' ⟨rfl, rfl⟩)
  go_ret2
  exact ⟨rfl, below_new _ _⟩
theorem find_none (w : World) (d : Nat) (s : ByteArray) (m : Option Nat) (c0 : w.cell? ⟨d, 0, none⟩ = some (.map m)) (c1 : w.cell? ⟨d, 1, none⟩ = some (.bool true)) (he : errn true s.size = 0) (hd : d < w.heap.size)
    (hlk : ∀ W, Below w.heap.size w W → (Instr.lookup 71 (.map m) (.string s) false).run Tryz.prog W = .ok (.pointer none) W) :
    Calls Tryz.prog 98 #[.pointer (some ⟨d, 0, none⟩), .string s] w fun e w' => e = .returned (.tuple #[.pointer none, .int .i64 8]) ∧ Below w.heap.size w w' := by
  have H := check1 (w.alloc (.cells #[.string s] 9)) d w.heap.size s true (by rw [← c1]; exact (heap_ext (Below.heap_alloc _ _ _ hd) 1).1) (by rw [cell_at (new_at w _ _)]; rfl)
  rw [he] at H
  have HH := Lib.hid H
  have hl := hlk _ (below_new w (.cells #[.string s] 9))
  have q0 : (w.alloc (.cells #[.string s] 9)).cell? ⟨d, 0, none⟩ = some (.map m) := by rw [← c0]; exact (heap_ext (Below.heap_alloc _ _ _ hd) 0).1
  clear H he hlk
  go_enter Tryz.func98, Tryz.ntmps98
  go_wp2_with (go_at_call 92; (with_reducible refine HH.out.mono ?_); rintro e w' ⟨rfl, rfl⟩)
  go_ret2
  exact ⟨rfl, below_new _ _⟩
theorem find_some (w : World) (d b : Nat) (s : ByteArray) (m : Option Nat) (c0 : w.cell? ⟨d, 0, none⟩ = some (.map m)) (c1 : w.cell? ⟨d, 1, none⟩ = some (.bool true)) (he : errn true s.size = 0) (hd : d < w.heap.size)
    (hlk : ∀ W, Below w.heap.size w W → (Instr.lookup 71 (.map m) (.string s) false).run Tryz.prog W = .ok (.pointer (some ⟨b, 0, none⟩)) W) :
    Calls Tryz.prog 98 #[.pointer (some ⟨d, 0, none⟩), .string s] w fun e w' => e = .returned (.tuple #[.pointer (some ⟨b, 0, none⟩), .int .i64 0]) ∧ Below w.heap.size w w' := by
  have H := check1 (w.alloc (.cells #[.string s] 9)) d w.heap.size s true (by rw [← c1]; exact (heap_ext (Below.heap_alloc _ _ _ hd) 1).1) (by rw [cell_at (new_at w _ _)]; rfl)
  rw [he] at H
  have HH := Lib.hid H
  have hl := hlk _ (below_new w (.cells #[.string s] 9))
  have q0 : (w.alloc (.cells #[.string s] 9)).cell? ⟨d, 0, none⟩ = some (.map m) := by rw [← c0]; exact (heap_ext (Below.heap_alloc _ _ _ hd) 0).1
  clear H he hlk
  go_enter Tryz.func98, Tryz.ntmps98
  go_wp2_with (go_at_call 92; (with_reducible refine HH.out.mono ?_); rintro e w' ⟨rfl, rfl⟩)
  go_ret2
  exact ⟨rfl, below_new _ _⟩

/-- the file of a name -/
def getF (L : Files) (n : List UInt8) : Option Fl := (L.find? (·.1 == n)).map (·.2)
theorem getF_mem {L : Files} {n : List UInt8} {F : Fl} (h : getF L n = some F) : (n, F) ∈ L := by
  unfold getF at h
  obtain ⟨⟨n', F'⟩, h1, rfl⟩ := Option.map_eq_some_iff.1 h
  have h2 := List.mem_of_find?_eq_some h1
  have h3 := List.find?_some h1
  obtain rfl : n' = n := by simpa using h3
  exact h2
theorem lk_dir (L : Files) (n : List UInt8) : lk (dir L) n = (getF L n).map (·.b) := by
  unfold lk getF dir
  rw [List.find?_map, Option.map_map, Option.map_map]
  rfl
/-- what find tells: the file, the error -/
def errF (on : Bool) (n : Nat) (o : Option Fl) : Int := if errn on n = 0 then (match o with | none => 8 | some _ => 0) else errn on n

theorem errn_on {on : Bool} {n : Nat} (h : errn on n = 0) : on = true := by
  unfold errn at h
  cases on with
  | true => rfl
  | false => simp at h
theorem DiskAt.find {w : World} {d : Nat} {K : Dk} (h : DiskAt w d K) (s : ByteArray) (hs : s.size ≤ maxLen) :
    Calls Tryz.prog 98 #[.pointer (some ⟨d, 0, none⟩), .string s] w fun e w' =>
      e = .returned (.tuple #[ptr (if errn K.on s.size = 0 then (getF K.files s.data.toList).map (·.b) else none), .int .i64 (errF K.on s.size (getF K.files s.data.toList))]) ∧ Below w.heap.size w w' := by
  have c0 : w.cell? ⟨d, 0, none⟩ = some (.map K.m) := cell_at h.blk 0
  have c1 : w.cell? ⟨d, 1, none⟩ = some (.bool K.on) := cell_at h.blk 1
  have hd := lt_of_block h.blk
  unfold errF
  by_cases he : errn K.on s.size = 0
  · rw [if_pos he, if_pos he]
    have hon := errn_on he
    have hlk : ∀ W, Below w.heap.size w W → (Instr.lookup 71 (.map K.m) (.string s) false).run Tryz.prog W = .ok (ptr ((getF K.files s.data.toList).map (·.b))) W := fun W hW => by
      rw [← lk_dir]
      exact (h.map.fr (S := fun _ => False) (.of hW) (fun _ _ => id)).look (by rw [dir_names]; exact h.files.names) hs
    rw [hon] at c1 he
    cases hg : getF K.files s.data.toList with
    | none =>
      rw [hg] at hlk
      exact find_none w d s K.m c0 c1 he hd hlk
    | some F =>
      rw [hg] at hlk
      exact find_some w d F.b s K.m c0 c1 he hd hlk
  · rw [if_neg he, if_neg he]
    exact find_err w d s K.on c1 _ rfl (by simpa using he) hd

theorem size_file {w : World} {L : Files} (h : FilesAt w L) (n : List UInt8) : Calls Tryz.prog 93 #[ptr ((getF L n).map (·.b))] w fun e w' => e = .returned (.int .i64 (match getF L n with | none => 0 | some F => F.secs.length : Nat)) ∧ w = w' := by
  cases hg : getF L n with
  | none => exact size_nil w
  | some F => exact (h _ (getF_mem hg)).size
/-- Size: how many sectors, the error -/
def sizeF (on : Bool) (n : Nat) (o : Option Fl) : Nat := if errn on n = 0 then (match o with | none => 0 | some F => F.secs.length) else 0
theorem DiskAt.sizeOf {w : World} {d : Nat} {K : Dk} (h : DiskAt w d K) (s : ByteArray) (hs : s.size ≤ maxLen) :
    Calls Tryz.prog 73 #[.pointer (some ⟨d, 0, none⟩), .string s] w fun e w' => e = .returned (.tuple #[.int .i64 (sizeF K.on s.size (getF K.files s.data.toList)), .int .i64 (errF K.on s.size (getF K.files s.data.toList))]) ∧ Below w.heap.size w w' := by
  have HF := h.find s hs
  have HS : Hid (∀ W, Below w.heap.size w W → Calls Tryz.prog 93 #[ptr (if errn K.on s.size = 0 then (getF K.files s.data.toList).map (·.b) else none)] W fun e w' => e = .returned (.int .i64 (sizeF K.on s.size (getF K.files s.data.toList))) ∧ W = w') := by
    intro W hW
    unfold sizeF
    by_cases he : errn K.on s.size = 0
    · rw [if_pos he, if_pos he]
      exact size_file (fun p hp => (h.files.at' p hp).below hW) s.data.toList
    · rw [if_neg he, if_neg he]
      exact size_nil W
  obtain ⟨p, hp⟩ := ptr_shape (if errn K.on s.size = 0 then (getF K.files s.data.toList).map (·.b) else none)
  rw [hp] at HF HS
  generalize sizeF K.on s.size (getF K.files s.data.toList) = z at *
  generalize errF K.on s.size (getF K.files s.data.toList) = y at *
  have HF := Lib.hid HF
  clear h hs hp
  go_enter Tryz.func73, Tryz.ntmps73
  go_wp2_with (first
    | (go_at_call 98; (with_reducible refine HF.out.mono ?_); rintro e w1 ⟨rfl, hb⟩; have HB := Lib.hid hb; clear hb)
    | (go_at_call 93; (with_reducible refine (HS.out _ HB.out).mono ?_); rintro e w2 ⟨rfl, rfl⟩))
  go_ret2
  exact ⟨rfl, HB.out⟩
theorem size_dnil (w : World) (s : ByteArray) : Calls Tryz.prog 73 #[.pointer none, .string s] w fun e w' => e = .returned (.tuple #[.int .i64 0, .int .i64 14]) ∧ Below w.heap.size w w' := by
  have HF := Lib.hid (find_nil w s)
  have HS := Lib.hid (fun w => size_nil w)
  go_enter Tryz.func73, Tryz.ntmps73
  go_wp2_with (first
    | (go_at_call 98; (with_reducible refine HF.out.mono ?_); rintro e w1 ⟨rfl, hb⟩; have HB := Lib.hid hb; clear hb)
    | (go_at_call 93; (with_reducible refine (HS.out _).mono ?_); rintro e w2 ⟨rfl, rfl⟩))
  go_ret2
  exact ⟨rfl, HB.out⟩

end Go.Proofs.YtbkngnjkaledlaaGreat.P4

/-
  Package disk: a file is made; a call is counted. (Disk, part 22.)
-/
namespace Go.Proofs.YtbkngnjkaledlaaGreat.P4
open Go Go.RowKit Go.Lib Go.Maps Go.ChangeMaps Go.MapKept Go.Proofs.YtbkngnjkaledlaaGreat.P3

/-- a new file -/
def Fl.fresh (b : Nat) : Fl := ⟨b, .slice none 0 0, [], 0, false, []⟩
theorem fresh_ok (b : Nat) : FileOk (Fl.fresh b) := by
  refine ⟨fun i s h => ?_, fun l x r e => ?_, fun x hx => ?_, fun x hx => ?_, fun s hs => ?_, fun i s h => ?_, fun i s h _ => ?_, Nat.le_refl _, fun _ => rfl, Nat.zero_le _, List.Pairwise.nil, Nat.zero_le _⟩
  · simp [Fl.fresh] at h
  · have := congrArg List.length e
    simp [Fl.fresh] at this
  · simp [Fl.fresh] at hx
  · simp [Fl.fresh] at hx
  · simp [Fl.fresh] at hs
  · simp [Fl.fresh] at h
  · simp [Fl.fresh] at h
theorem fresh_abs (b : Nat) : (Fl.fresh b).abs = ⟨[], [], false, []⟩ := rfl
def freshCells : Array Value := #[.slice none 0 0, .int .i64 0, .bool false, .pointer none, .pointer none, .int .i64 0]
theorem fresh_at {w : World} {b : Nat} (h : w.heap[b]? = some (.cells freshCells 148 (0, 0))) : FileAt w (Fl.fresh b) := ⟨h, World.ownsRow_nil _ _ _ _, trivial, List.nodup_nil⟩

/-- what create leaves -/
def MadePost (w : World) (d : Nat) (L : Dir) (n : List UInt8) (m : Option Nat) (e : Ending) (w' : World) : Prop :=
  ∃ b b2, e = .returned (.pointer (some ⟨b, 0, none⟩)) ∧ w.heap.size ≤ b ∧ w'.heap[b]? = some (.cells freshCells 148 (0, 0)) ∧ MapAt w' (some b2) (putL L n b) ∧ (m = some b2 ∨ m = none ∧ w.heap.size ≤ b2) ∧ w'.cell? ⟨d, 0, none⟩ = some (.map (some b2)) ∧ Fr (fun k => k = d ∨ m = some k) w w' ∧ (∀ c, w.heap[d]? = some (.cells c 73 (0, 0)) → w'.heap[d]? = some (.cells (c.setIfInBounds 0 (.map (some b2))) 73 (0, 0)))

theorem turned_only {w w' : World} {b : Nat} (h : w.mapTurned w' b) : Only b w w' := by
  have hg := h.grown
  exact ⟨hg.os, hg.tape, hg.output, hg.size, fun k hk hne => hg.block k hk (fun e => hne (by simpa using e))⟩

set_option maxRecDepth 100000 in
set_option maxHeartbeats 1000000 in
theorem create_some (w : World) (d b : Nat) (s : ByteArray) (L : Dir) {c : Array Value} (hblk : w.heap[d]? = some (.cells c 73 (0, 0))) (hc : c[0]? = some (.map (some b))) (hm : MapAt w (some b) L) (hn : (L.map (·.1)).Nodup) (hl : L.length ≤ 1000) (hs : s.size ≤ 1000) :
    Calls Tryz.prog 95 #[.pointer (some ⟨d, 0, none⟩), .string s] w (MadePost w d L s.data.toList (some b)) := by
  have c0 : w.cell? ⟨d, 0, none⟩ = some (.map (some b)) := (cell_at hblk 0).trans hc
  have heq : ∀ w : World, (binOp .eql 71 (.map (some b)) (.map none)).run Tryz.prog w = .ok (.bool false) w := fun w => run_eql_map_nil w _ _ _ (some b) Tryz.underlying71
  have hbd : d ≠ b := by
    rintro rfl
    rcases hm with ⟨h, _⟩ | ⟨b', D, e, ⟨es, clock, h1, _⟩, _⟩
    · cases h
    · obtain rfl : d = b' := by simpa using e
      rw [hblk] at h1; cases h1
  have hbl : b < w.heap.size := by
    rcases hm with ⟨h, _⟩ | ⟨b', D, e, ho, _⟩
    · cases h
    · obtain rfl : b = b' := by simpa using e
      exact ho.lt
  have HP : Hid (∀ w2, Below w.heap.size w w2 → w2.heap[w.heap.size]? = some (.cells freshCells 148 (0, 0)) → ∃ w3, (Instr.mapUpdate 71 (.map (some b)) (.string s) (.pointer (some ⟨w.heap.size, 0, none⟩))).run Tryz.prog w2 = .ok () w3 ∧ MadePost w d L s.data.toList (some b) (.returned (.pointer (some ⟨w.heap.size, 0, none⟩))) w3) := by
    intro w2 hb hf
    obtain ⟨w3, hrun, hm3, ht⟩ := (hm.fr (S := fun _ => False) (.of hb) (fun _ _ => id)).put hn hl (s := s) (by unfold maxLen; omega) w.heap.size
    have ho := turned_only ht
    have hd3 : w3.heap[d]? = some (.cells c 73 (0, 0)) := ho.keep (old_below hblk hb) hbd
    refine ⟨w3, hrun, w.heap.size, b, rfl, Nat.le_refl _, ho.keep hf (by omega), hm3, .inl rfl, (cell_at hd3 0).trans hc, (Fr.of hb).trans (.only ho (.inr rfl)), fun c' hc' => ?_⟩
    rw [hblk] at hc'
    obtain rfl : c = c' := by simpa using hc'
    rw [hd3]
    congr
    apply Array.ext_getElem?
    intro i
    rw [Array.getElem?_setIfInBounds]
    by_cases hi : 0 = i
    · subst hi; rw [if_pos rfl, if_pos (Array.getElem?_eq_some_iff.1 hc).1, hc]
    · rw [if_neg hi]
  have HC : Hid (∀ W, Calls Tryz.prog 32 #[.string s] W fun e w' => e = .returned (.string s) ∧ Below W.heap.size W w') := fun W => clone_any s W (by omega)
  have HD : Hid (∀ w2, Below w.heap.size w w2 → w2.cell? ⟨d, 0, none⟩ = some (.map (some b))) := fun w2 hb => (cell_at (old_below hblk hb) 0).trans hc
  have hdl := lt_of_block hblk
  clear hblk hc hm hn hl hs
  go_enter Tryz.func95, Tryz.ntmps95
  go_wp2
  go_region_with ((go_at_call 32; (with_reducible refine (HC.out _).mono ?_); rintro e w2 ⟨rfl, hb⟩; have hb2 : Below w.heap.size w w2 := Below.trans (by first | exact ((Below.refl _ _).alloc (Nat.le_refl _) _).drew | exact (Below.refl _ _).alloc (Nat.le_refl _) _) (hb.mono (by simp)); have c2 := HD.out w2 hb2; obtain ⟨w3, hrun, hpost⟩ := HP.out w2 hb2 ((hb.block w.heap.size (by simp)).trans (heap_alloc_new w (.cells freshCells 148))); have HPo := Lib.hid hpost; clear hpost))
  all_goals
    go_wp2
    go_ret
    exact HPo.out

set_option maxRecDepth 100000 in
set_option maxHeartbeats 1000000 in
theorem create_none (w : World) (d : Nat) (s : ByteArray) {c : Array Value} (hblk : w.heap[d]? = some (.cells c 73 (0, 0))) (hc : c[0]? = some (.map none)) (hs : s.size ≤ 1000) :
    Calls Tryz.prog 95 #[.pointer (some ⟨d, 0, none⟩), .string s] w (MadePost w d [] s.data.toList none) := by
  have c0 : w.cell? ⟨d, 0, none⟩ = some (.map none) := (cell_at hblk 0).trans hc
  have f0 := free_at hblk 0
  have heq : ∀ w : World, (binOp .eql 71 (.map none) (.map none)).run Tryz.prog w = .ok (.bool true) w := fun w => run_eql_map_nil w _ _ _ none Tryz.underlying71
  have hmm := @run_makeMap Tryz.prog
  obtain ⟨W1, hW1⟩ : ∃ W1, W1 = (w.setCell ⟨d, 0, none⟩ (.map (some w.heap.size))).alloc (.map #[] 0) := ⟨_, rfl⟩
  have hsz0 : (w.setCell ⟨d, 0, none⟩ (.map (some w.heap.size))).heap.size = w.heap.size := by simp [World.setCell]
  have hsz : W1.heap.size = w.heap.size + 1 := by rw [hW1]; simp [hsz0]
  have hm1 : MapAt W1 (some w.heap.size) [] := by
    have := MapAt.made (w.setCell ⟨d, 0, none⟩ (.map (some w.heap.size)))
    rw [hsz0] at this
    rw [hW1]; exact this
  have hd1 : W1.heap[d]? = some (.cells (c.setIfInBounds 0 (.map (some w.heap.size))) 73 (0, 0)) := by rw [hW1]; exact old_alloc (set_at hblk 0 _) _
  have hf1 : Fr (fun k => k = d ∨ none = some k) w W1 := by rw [hW1]; exact (Fr.only ((Only.refl d w).setCell 0 _) (.inl rfl)).trans (.of (below_new _ _))
  have hdl := lt_of_block hblk
  have hcs : 0 < c.size := (Array.getElem?_eq_some_iff.1 hc).1
  have HP : Hid (∀ w2, Below W1.heap.size W1 w2 → w2.heap[w.heap.size + 1]? = some (.cells freshCells 148 (0, 0)) → ∃ w3, (Instr.mapUpdate 71 (.map (some w.heap.size)) (.string s) (.pointer (some ⟨w.heap.size + 1, 0, none⟩))).run Tryz.prog w2 = .ok () w3 ∧ MadePost w d [] s.data.toList none (.returned (.pointer (some ⟨w.heap.size + 1, 0, none⟩))) w3) := by
    intro w2 hb hf
    obtain ⟨w3, hrun, hm3, ht⟩ := (hm1.fr (S := fun _ => False) (.of hb) (fun _ _ => id)).put (by simp) (by simp) (s := s) (by unfold maxLen; omega) (w.heap.size + 1)
    have ho := turned_only ht
    have hd3 : w3.heap[d]? = some (.cells (c.setIfInBounds 0 (.map (some w.heap.size))) 73 (0, 0)) := ho.keep (old_below hd1 hb) (by omega)
    refine ⟨w3, hrun, w.heap.size + 1, w.heap.size, rfl, by omega, ho.keep hf (by omega), hm3, .inr ⟨rfl, Nat.le_refl _⟩, ?_, ?_, fun c' hc' => ?_⟩
    · rw [cell_at hd3, Array.getElem?_setIfInBounds, if_pos rfl, if_pos hcs]
    · refine (((hf1.trans (.of hb)).mono (T := fun k => (k = d ∨ none = some k) ∨ k = w.heap.size) (fun k _ h => .inl h)).trans (.only ho (.inr rfl))).mono (fun k hk h => h.elim id (fun e => by omega))
    · rw [hblk] at hc'
      obtain rfl : c = c' := by simpa using hc'
      exact hd3
  have HC : Hid (∀ W, Calls Tryz.prog 32 #[.string s] W fun e w' => e = .returned (.string s) ∧ Below W.heap.size W w') := fun W => clone_any s W (by omega)
  have HD : Hid (∀ w2, Below W1.heap.size W1 w2 → w2.cell? ⟨d, 0, none⟩ = some (.map (some w.heap.size))) := fun w2 hb => by
    rw [cell_at (old_below hd1 hb), Array.getElem?_setIfInBounds, if_pos rfl, if_pos hcs]
  have c1 : W1.cell? ⟨d, 0, none⟩ = some (.map (some w.heap.size)) := HD.out W1 (Below.refl _ _)
  have hdl1 : d < W1.heap.size := by omega
  have HW := Lib.hid hW1
  have HSz := Lib.hid hsz
  clear hblk hc hs hm1 hd1 hf1 hW1 hsz0 hsz
  go_enter Tryz.func95, Tryz.ntmps95
  go_wp2
  rw [← HW.out]
  clear c0 f0 hmm
  go_region_with ((go_at_call 32; (with_reducible refine (HC.out _).mono ?_); rintro e w2 ⟨rfl, hb⟩; have hb2 : Below W1.heap.size W1 w2 := Below.trans (by first | exact ((Below.refl _ _).alloc (Nat.le_refl _) _).drew | exact (Below.refl _ _).alloc (Nat.le_refl _) _) (hb.mono (by simp)); have c2 := HD.out w2 hb2; obtain ⟨w3, hrun, hpost⟩ := HP.out w2 hb2 ((hb.block (w.heap.size + 1) (by simp [HSz.out])).trans (by have := heap_alloc_new W1 (.cells freshCells 148); rw [HSz.out] at this; exact this)); have HPo := Lib.hid hpost; clear hpost))
  all_goals
    go_wp2
    go_ret
    exact HPo.out

end Go.Proofs.YtbkngnjkaledlaaGreat.P4
