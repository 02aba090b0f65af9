/-
  Texts of the proof of SaidPlay8b.
-/
import Derived.Test.YtbkngnjkaledlaaGreatMp08
set_option maxHeartbeats 8000000
set_option maxRecDepth 100000
namespace Go.Proofs.YtbkngnjkaledlaaGreat.P4
open Go Go.RowKit Go.Lib Go.Maps Go.ChangeMaps Go.MapKept P3
def errn (on : Bool) (n : Nat) : Int := if on = false then 14 else if n < 1 ∨ 40 < n then 1 else 0
theorem check_off (w : World) (d : Nat) (v : Value) (c1 : w.cell? ⟨d, 1, none⟩ = some (.bool false)) : Calls Tryz.prog 92 #[.pointer (some ⟨d, 0, none⟩), v] w fun e w' => e = .returned (.int .i64 14) ∧ w = w' := by
 have H := Lib.hid (on_any w d false c1)
 go_enter Tryz.func92, Tryz.ntmps92
 go_wp2_with (go_at_call 31; (with_reducible refine H.out.mono ?_); rintro e w' ⟨rfl, rfl⟩)
 go_ret
 exact ⟨rfl, rfl⟩
theorem check_bad (w : World) (d B : Nat) (s : ByteArray) (n : Nat) (hn : 0 < n) (c1 : w.cell? ⟨d, 1, none⟩ = some (.bool true)) (b0 : w.cell? ⟨B, 0, none⟩ = some (.string s)) (hs : s.size < 1 ∨ 40 < s.size) : Calls Tryz.prog 92 #[.pointer (some ⟨d, 0, none⟩), .slice (some ⟨B, 0, none⟩) n n] w fun e w' => e = .returned (.int .i64 1) ∧ w = w' := by
 have H := Lib.hid (on_any w d true c1)
 have b1 : (0 : Int) < (n : Int) := by omega
 rcases hs with hs | hs
 ·go_enter Tryz.func92, Tryz.ntmps92
  go_wp2_with (go_at_call 31; (with_reducible refine H.out.mono ?_); rintro e w' ⟨rfl, rfl⟩)
  go_loop [12] (fun i => i = .int .i64 0) (fun _ => 0)
  case atStart => rfl
  case round =>
   subst hrel
   go_wp2
   go_ret
   exact ⟨rfl, rfl⟩
 ·have h1 : ¬ s.size < 1 := by omega
  have h2 : 1 ≤ s.size := by omega
  go_enter Tryz.func92, Tryz.ntmps92
  go_wp2_with (go_at_call 31; (with_reducible refine H.out.mono ?_); rintro e w' ⟨rfl, rfl⟩)
  go_loop [12] (fun i => i = .int .i64 0) (fun _ => 0)
  case atStart => rfl
  case round =>
   subst hrel
   go_wp2
   go_ret
   exact ⟨rfl, rfl⟩
theorem check_ok (w : World) (d B : Nat) (s : ByteArray) (c1 : w.cell? ⟨d, 1, none⟩ = some (.bool true)) (b0 : w.cell? ⟨B, 0, none⟩ = some (.string s)) (h1 : 1 ≤ s.size) (h2 : s.size ≤ 40) : Calls Tryz.prog 92 #[.pointer (some ⟨d, 0, none⟩), .slice (some ⟨B, 0, none⟩) 1 1] w fun e w' => e = .returned (.int .i64 0) ∧ w = w' := by
 have H := Lib.hid (on_any w d true c1)
 have h3 : ¬ s.size < 1 := by omega
 have h4 : ¬ 40 < s.size := by omega
 go_enter Tryz.func92, Tryz.ntmps92
 go_wp2_with (go_at_call 31; (with_reducible refine H.out.mono ?_); rintro e w' ⟨rfl, rfl⟩)
 go_loop [12] (fun i => i = .int .i64 0 ∨ i = .int .i64 1) (fun i => (1 - intOf i).toNat)
 case atStart => exact .inl rfl
 case round =>
  rcases hrel with rfl | rfl
  ·go_wp2
   go_round
   case rel => exact .inr rfl
   case measure => simp [intOf]
  ·go_wp2
   go_ret
   exact ⟨rfl, rfl⟩
theorem check1 (w : World) (d B : Nat) (s : ByteArray) (on : Bool) (c1 : w.cell? ⟨d, 1, none⟩ = some (.bool on)) (b0 : w.cell? ⟨B, 0, none⟩ = some (.string s)) : Calls Tryz.prog 92 #[.pointer (some ⟨d, 0, none⟩), .slice (some ⟨B, 0, none⟩) 1 1] w fun e w' => e = .returned (.int .i64 (errn on s.size)) ∧ w = w' := by
 cases on with
 | false => exact check_off w d _ c1
 | true =>
  unfold errn
  rw [if_neg (by decide)]
  by_cases hs : s.size < 1 ∨ 40 < s.size
  ·rw [if_pos hs]
   exact check_bad w d B s 1 (by omega) c1 b0 hs
  ·rw [if_neg hs]
   exact check_ok w d B s c1 b0 (by omega) (by omega)
theorem find_err (w : World) (d : Nat) (s : ByteArray) (on : Bool) (c1 : w.cell? ⟨d, 1, none⟩ = some (.bool on)) (e0 : Int) (he : errn on s.size = e0) (hne : (e0 != 0) = true) (hd : d < w.heap.size) :
  Calls Tryz.prog 98 #[.pointer (some ⟨d, 0, none⟩), .string s] w fun e w' => e = .returned (.tuple #[.pointer none, .int .i64 e0]) ∧ Below w.heap.size w w' := by
 have H := check1 (w.alloc (.cells #[.string s] 9)) d w.heap.size s on (by rw [← c1]; exact (heap_ext (Below.heap_alloc _ _ _ hd) 1).1) (by rw [cell_at (new_at w _ _)]; rfl)
 rw [he] at H
 have HH := Lib.hid H
 clear H he
 go_enter Tryz.func98, Tryz.ntmps98
 go_wp2_with (go_at_call 92; (with_reducible refine HH.out.mono ?_); rintro e w' ⟨rfl, rfl⟩)
 go_ret2
 exact ⟨rfl, below_new _ _⟩
theorem find_none (w : World) (d : Nat) (s : ByteArray) (m : Option Nat) (c0 : w.cell? ⟨d, 0, none⟩ = some (.map m)) (c1 : w.cell? ⟨d, 1, none⟩ = some (.bool true)) (he : errn true s.size = 0) (hd : d < w.heap.size)
  (hlk : ∀ W, Below w.heap.size w W → (Instr.lookup 71 (.map m) (.string s) false).run Tryz.prog W = .ok (.pointer none) W) :
  Calls Tryz.prog 98 #[.pointer (some ⟨d, 0, none⟩), .string s] w fun e w' => e = .returned (.tuple #[.pointer none, .int .i64 8]) ∧ Below w.heap.size w w' := by
 have H := check1 (w.alloc (.cells #[.string s] 9)) d w.heap.size s true (by rw [← c1]; exact (heap_ext (Below.heap_alloc _ _ _ hd) 1).1) (by rw [cell_at (new_at w _ _)]; rfl)
 rw [he] at H
 have HH := Lib.hid H
 have hl := hlk _ (below_new w (.cells #[.string s] 9))
 have q0 : (w.alloc (.cells #[.string s] 9)).cell? ⟨d, 0, none⟩ = some (.map m) := by rw [← c0]; exact (heap_ext (Below.heap_alloc _ _ _ hd) 0).1
 clear H he hlk
 go_enter Tryz.func98, Tryz.ntmps98
 go_wp2_with (go_at_call 92; (with_reducible refine HH.out.mono ?_); rintro e w' ⟨rfl, rfl⟩)
 go_ret2
 exact ⟨rfl, below_new _ _⟩
theorem find_some (w : World) (d b : Nat) (s : ByteArray) (m : Option Nat) (c0 : w.cell? ⟨d, 0, none⟩ = some (.map m)) (c1 : w.cell? ⟨d, 1, none⟩ = some (.bool true)) (he : errn true s.size = 0) (hd : d < w.heap.size)
  (hlk : ∀ W, Below w.heap.size w W → (Instr.lookup 71 (.map m) (.string s) false).run Tryz.prog W = .ok (.pointer (some ⟨b, 0, none⟩)) W) :
  Calls Tryz.prog 98 #[.pointer (some ⟨d, 0, none⟩), .string s] w fun e w' => e = .returned (.tuple #[.pointer (some ⟨b, 0, none⟩), .int .i64 0]) ∧ Below w.heap.size w w' := by
 have H := check1 (w.alloc (.cells #[.string s] 9)) d w.heap.size s true (by rw [← c1]; exact (heap_ext (Below.heap_alloc _ _ _ hd) 1).1) (by rw [cell_at (new_at w _ _)]; rfl)
 rw [he] at H
 have HH := Lib.hid H
 have hl := hlk _ (below_new w (.cells #[.string s] 9))
 have q0 : (w.alloc (.cells #[.string s] 9)).cell? ⟨d, 0, none⟩ = some (.map m) := by rw [← c0]; exact (heap_ext (Below.heap_alloc _ _ _ hd) 0).1
 clear H he hlk
 go_enter Tryz.func98, Tryz.ntmps98
 go_wp2_with (go_at_call 92; (with_reducible refine HH.out.mono ?_); rintro e w' ⟨rfl, rfl⟩)
 go_ret2
 exact ⟨rfl, below_new _ _⟩
def getF (L : Files) (n : List UInt8) : Option Fl := (L.find? (·.1 == n)).map (·.2)
theorem getF_mem {L : Files} {n : List UInt8} {F : Fl} (h : getF L n = some F) : (n, F) ∈ L := by
 unfold getF at h
 obtain ⟨⟨n', F'⟩, h1, rfl⟩ := Option.map_eq_some_iff.1 h
 have h2 := List.mem_of_find?_eq_some h1
 have h3 := List.find?_some h1
 obtain rfl : n' = n := by simpa using h3
 exact h2
theorem lk_dir (L : Files) (n : List UInt8) : lk (dir L) n = (getF L n).map (·.b) := by
 unfold lk getF dir
 rw [List.find?_map, Option.map_map, Option.map_map]
 rfl
def errF (on : Bool) (n : Nat) (o : Option Fl) : Int := if errn on n = 0 then (match o with | none => 8 | some _ => 0) else errn on n
theorem errn_on {on : Bool} {n : Nat} (h : errn on n = 0) : on = true := by
 unfold errn at h
 cases on with
 | true => rfl
 | false => simp at h
theorem DiskAt.find {w : World} {d : Nat} {K : Dk} (h : DiskAt w d K) (s : ByteArray) (hs : s.size ≤ maxLen) :
  Calls Tryz.prog 98 #[.pointer (some ⟨d, 0, none⟩), .string s] w fun e w' =>
   e = .returned (.tuple #[ptr (if errn K.on s.size = 0 then (getF K.files s.data.toList).map (·.b) else none), .int .i64 (errF K.on s.size (getF K.files s.data.toList))]) ∧ Below w.heap.size w w' := by
 have c0 : w.cell? ⟨d, 0, none⟩ = some (.map K.m) := cell_at h.blk 0
 have c1 : w.cell? ⟨d, 1, none⟩ = some (.bool K.on) := cell_at h.blk 1
 have hd := lt_of_block h.blk
 unfold errF
 by_cases he : errn K.on s.size = 0
 ·rw [if_pos he, if_pos he]
  have hon := errn_on he
  have hlk : ∀ W, Below w.heap.size w W → (Instr.lookup 71 (.map K.m) (.string s) false).run Tryz.prog W = .ok (ptr ((getF K.files s.data.toList).map (·.b))) W := fun W hW => by
   rw [← lk_dir]
   exact (h.map.fr (S := fun _ => False) (.of hW) (fun _ _ => id)).look (by rw [dir_names]; exact h.files.names) hs
  rw [hon] at c1 he
  cases hg : getF K.files s.data.toList with
  | none =>
   rw [hg] at hlk
   exact find_none w d s K.m c0 c1 he hd hlk
  | some F =>
   rw [hg] at hlk
   exact find_some w d F.b s K.m c0 c1 he hd hlk
 ·rw [if_neg he, if_neg he]
  exact find_err w d s K.on c1 _ rfl (by simpa using he) hd
theorem size_file {w : World} {L : Files} (h : FilesAt w L) (n : List UInt8) : Calls Tryz.prog 93 #[ptr ((getF L n).map (·.b))] w fun e w' => e = .returned (.int .i64 (match getF L n with | none => 0 | some F => F.secs.length : Nat)) ∧ w = w' := by
 cases hg : getF L n with
 | none => exact size_nil w
 | some F => exact (h _ (getF_mem hg)).size
def sizeF (on : Bool) (n : Nat) (o : Option Fl) : Nat := if errn on n = 0 then (match o with | none => 0 | some F => F.secs.length) else 0
theorem DiskAt.sizeOf {w : World} {d : Nat} {K : Dk} (h : DiskAt w d K) (s : ByteArray) (hs : s.size ≤ maxLen) :
  Calls Tryz.prog 73 #[.pointer (some ⟨d, 0, none⟩), .string s] w fun e w' => e = .returned (.tuple #[.int .i64 (sizeF K.on s.size (getF K.files s.data.toList)), .int .i64 (errF K.on s.size (getF K.files s.data.toList))]) ∧ Below w.heap.size w w' := by
 have HF := h.find s hs
 have HS : Hid (∀ W, Below w.heap.size w W → Calls Tryz.prog 93 #[ptr (if errn K.on s.size = 0 then (getF K.files s.data.toList).map (·.b) else none)] W fun e w' => e = .returned (.int .i64 (sizeF K.on s.size (getF K.files s.data.toList))) ∧ W = w') := by
  intro W hW
  unfold sizeF
  by_cases he : errn K.on s.size = 0
  ·rw [if_pos he, if_pos he]
   exact size_file (fun p hp => (h.files.at' p hp).below hW) s.data.toList
  ·rw [if_neg he, if_neg he]
   exact size_nil W
 obtain ⟨p, hp⟩ := ptr_shape (if errn K.on s.size = 0 then (getF K.files s.data.toList).map (·.b) else none)
 rw [hp] at HF HS
 generalize sizeF K.on s.size (getF K.files s.data.toList) = z at *
 generalize errF K.on s.size (getF K.files s.data.toList) = y at *
 have HF := Lib.hid HF
 clear h hs hp
 go_enter Tryz.func73, Tryz.ntmps73
 go_wp2_with (first
  | (go_at_call 98; (with_reducible refine HF.out.mono ?_); rintro e w1 ⟨rfl, hb⟩; have HB := Lib.hid hb; clear hb)
  | (go_at_call 93; (with_reducible refine (HS.out _ HB.out).mono ?_); rintro e w2 ⟨rfl, rfl⟩))
 go_ret2
 exact ⟨rfl, HB.out⟩
def Fl.fresh (b : Nat) : Fl := ⟨b, .slice none 0 0, [], 0, false, []⟩
theorem fresh_ok (b : Nat) : FileOk (Fl.fresh b) := by
 refine ⟨fun i s h => ?_, fun l x r e => ?_, fun x hx => ?_, fun x hx => ?_, fun s hs => ?_, fun i s h => ?_, fun i s h _ => ?_, Nat.le_refl _, fun _ => rfl, Nat.zero_le _, List.Pairwise.nil, Nat.zero_le _⟩
 ·simp [Fl.fresh] at h
 ·have := congrArg List.length e
  simp [Fl.fresh] at this
 ·simp [Fl.fresh] at hx
 ·simp [Fl.fresh] at hx
 ·simp [Fl.fresh] at hs
 ·simp [Fl.fresh] at h
 ·simp [Fl.fresh] at h
def freshCells : Array Value := #[.slice none 0 0, .int .i64 0, .bool false, .pointer none, .pointer none, .int .i64 0]
theorem fresh_at {w : World} {b : Nat} (h : w.heap[b]? = some (.cells freshCells 148 (0, 0))) : FileAt w (Fl.fresh b) := ⟨h, World.ownsRow_nil _ _ _ _, trivial, List.nodup_nil⟩
def MadePost (w : World) (d : Nat) (L : Dir) (n : List UInt8) (m : Option Nat) (e : Ending) (w' : World) : Prop :=
 ∃ b b2, e = .returned (.pointer (some ⟨b, 0, none⟩)) ∧ w.heap.size ≤ b ∧ w'.heap[b]? = some (.cells freshCells 148 (0, 0)) ∧ MapAt w' (some b2) (putL L n b) ∧ (m = some b2 ∨ m = none ∧ w.heap.size ≤ b2) ∧ w'.cell? ⟨d, 0, none⟩ = some (.map (some b2)) ∧ Fr (fun k => k = d ∨ m = some k) w w' ∧ (∀ c, w.heap[d]? = some (.cells c 73 (0, 0)) → w'.heap[d]? = some (.cells (c.setIfInBounds 0 (.map (some b2))) 73 (0, 0)))
theorem turned_only {w w' : World} {b : Nat} (h : w.mapTurned w' b) : Only b w w' := by
 have hg := h.grown
 exact ⟨hg.os, hg.tape, hg.output, hg.size, fun k hk hne => hg.block k hk (fun e => hne (by simpa using e))⟩
theorem create_some (w : World) (d b : Nat) (s : ByteArray) (L : Dir) {c : Array Value} (hblk : w.heap[d]? = some (.cells c 73 (0, 0))) (hc : c[0]? = some (.map (some b))) (hm : MapAt w (some b) L) (hn : (L.map (·.1)).Nodup) (hl : L.length ≤ 1000) (hs : s.size ≤ 1000) :
  Calls Tryz.prog 95 #[.pointer (some ⟨d, 0, none⟩), .string s] w (MadePost w d L s.data.toList (some b)) := by
 have c0 : w.cell? ⟨d, 0, none⟩ = some (.map (some b)) := (cell_at hblk 0).trans hc
 have heq : ∀ w : World, (binOp .eql 71 (.map (some b)) (.map none)).run Tryz.prog w = .ok (.bool false) w := fun w => run_eql_map_nil w _ _ _ (some b) Tryz.underlying71
 have hbd : d ≠ b := by
  rintro rfl
  rcases hm with ⟨h, _⟩ | ⟨b', D, e, ⟨es, clock, h1, _⟩, _⟩
  ·cases h
  ·obtain rfl : d = b' := by simpa using e
   rw [hblk] at h1; cases h1
 have hbl : b < w.heap.size := by
  rcases hm with ⟨h, _⟩ | ⟨b', D, e, ho, _⟩
  ·cases h
  ·obtain rfl : b = b' := by simpa using e
   exact ho.lt
 have HP : Hid (∀ w2, Below w.heap.size w w2 → w2.heap[w.heap.size]? = some (.cells freshCells 148 (0, 0)) → ∃ w3, (Instr.mapUpdate 71 (.map (some b)) (.string s) (.pointer (some ⟨w.heap.size, 0, none⟩))).run Tryz.prog w2 = .ok () w3 ∧ MadePost w d L s.data.toList (some b) (.returned (.pointer (some ⟨w.heap.size, 0, none⟩))) w3) := by
  intro w2 hb hf
  obtain ⟨w3, hrun, hm3, ht⟩ := (hm.fr (S := fun _ => False) (.of hb) (fun _ _ => id)).put hn hl (s := s) (by unfold maxLen; omega) w.heap.size
  have ho := turned_only ht
  have hd3 : w3.heap[d]? = some (.cells c 73 (0, 0)) := ho.keep (old_below hblk hb) hbd
  refine ⟨w3, hrun, w.heap.size, b, rfl, Nat.le_refl _, ho.keep hf (by omega), hm3, .inl rfl, (cell_at hd3 0).trans hc, (Fr.of hb).trans (.only ho (.inr rfl)), fun c' hc' => ?_⟩
  rw [hblk] at hc'
  obtain rfl : c = c' := by simpa using hc'
  rw [hd3]
  congr
  apply Array.ext_getElem?
  intro i
  rw [Array.getElem?_setIfInBounds]
  by_cases hi : 0 = i
  ·subst hi; rw [if_pos rfl, if_pos (Array.getElem?_eq_some_iff.1 hc).1, hc]
  ·rw [if_neg hi]
 have HC : Hid (∀ W, Calls Tryz.prog 32 #[.string s] W fun e w' => e = .returned (.string s) ∧ Below W.heap.size W w') := fun W => clone_any s W (by omega)
 have HD : Hid (∀ w2, Below w.heap.size w w2 → w2.cell? ⟨d, 0, none⟩ = some (.map (some b))) := fun w2 hb => (cell_at (old_below hblk hb) 0).trans hc
 have hdl := lt_of_block hblk
 clear hblk hc hm hn hl hs
 go_enter Tryz.func95, Tryz.ntmps95
 go_wp2
 go_region_with ((go_at_call 32; (with_reducible refine (HC.out _).mono ?_); rintro e w2 ⟨rfl, hb⟩; have hb2 : Below w.heap.size w w2 := Below.trans (by first | exact ((Below.refl _ _).alloc (Nat.le_refl _) _).drew | exact (Below.refl _ _).alloc (Nat.le_refl _) _) (hb.mono (by simp)); have c2 := HD.out w2 hb2; obtain ⟨w3, hrun, hpost⟩ := HP.out w2 hb2 ((hb.block w.heap.size (by simp)).trans (heap_alloc_new w (.cells freshCells 148))); have HPo := Lib.hid hpost; clear hpost))
 all_goals
  go_wp2
  go_ret
  exact HPo.out
theorem create_none (w : World) (d : Nat) (s : ByteArray) {c : Array Value} (hblk : w.heap[d]? = some (.cells c 73 (0, 0))) (hc : c[0]? = some (.map none)) (hs : s.size ≤ 1000) :
  Calls Tryz.prog 95 #[.pointer (some ⟨d, 0, none⟩), .string s] w (MadePost w d [] s.data.toList none) := by
 have c0 : w.cell? ⟨d, 0, none⟩ = some (.map none) := (cell_at hblk 0).trans hc
 have f0 := free_at hblk 0
 have heq : ∀ w : World, (binOp .eql 71 (.map none) (.map none)).run Tryz.prog w = .ok (.bool true) w := fun w => run_eql_map_nil w _ _ _ none Tryz.underlying71
 have hmm := @run_makeMap Tryz.prog
 obtain ⟨W1, hW1⟩ : ∃ W1, W1 = (w.setCell ⟨d, 0, none⟩ (.map (some w.heap.size))).alloc (.map #[] 0) := ⟨_, rfl⟩
 have hsz0 : (w.setCell ⟨d, 0, none⟩ (.map (some w.heap.size))).heap.size = w.heap.size := by simp [World.setCell]
 have hsz : W1.heap.size = w.heap.size + 1 := by rw [hW1]; simp [hsz0]
 have hm1 : MapAt W1 (some w.heap.size) [] := by
  have := MapAt.made (w.setCell ⟨d, 0, none⟩ (.map (some w.heap.size)))
  rw [hsz0] at this
  rw [hW1]; exact this
 have hd1 : W1.heap[d]? = some (.cells (c.setIfInBounds 0 (.map (some w.heap.size))) 73 (0, 0)) := by rw [hW1]; exact old_alloc (set_at hblk 0 _) _
 have hf1 : Fr (fun k => k = d ∨ none = some k) w W1 := by rw [hW1]; exact (Fr.only ((Only.refl d w).setCell 0 _) (.inl rfl)).trans (.of (below_new _ _))
 have hdl := lt_of_block hblk
 have hcs : 0 < c.size := (Array.getElem?_eq_some_iff.1 hc).1
 have HP : Hid (∀ w2, Below W1.heap.size W1 w2 → w2.heap[w.heap.size + 1]? = some (.cells freshCells 148 (0, 0)) → ∃ w3, (Instr.mapUpdate 71 (.map (some w.heap.size)) (.string s) (.pointer (some ⟨w.heap.size + 1, 0, none⟩))).run Tryz.prog w2 = .ok () w3 ∧ MadePost w d [] s.data.toList none (.returned (.pointer (some ⟨w.heap.size + 1, 0, none⟩))) w3) := by
  intro w2 hb hf
  obtain ⟨w3, hrun, hm3, ht⟩ := (hm1.fr (S := fun _ => False) (.of hb) (fun _ _ => id)).put (by simp) (by simp) (s := s) (by unfold maxLen; omega) (w.heap.size + 1)
  have ho := turned_only ht
  have hd3 : w3.heap[d]? = some (.cells (c.setIfInBounds 0 (.map (some w.heap.size))) 73 (0, 0)) := ho.keep (old_below hd1 hb) (by omega)
  refine ⟨w3, hrun, w.heap.size + 1, w.heap.size, rfl, by omega, ho.keep hf (by omega), hm3, .inr ⟨rfl, Nat.le_refl _⟩, ?_, ?_, fun c' hc' => ?_⟩
  ·rw [cell_at hd3, Array.getElem?_setIfInBounds, if_pos rfl, if_pos hcs]
  ·refine (((hf1.trans (.of hb)).mono (T := fun k => (k = d ∨ none = some k) ∨ k = w.heap.size) (fun k _ h => .inl h)).trans (.only ho (.inr rfl))).mono (fun k hk h => h.elim id (fun e => by omega))
  ·rw [hblk] at hc'
   obtain rfl : c = c' := by simpa using hc'
   exact hd3
 have HC : Hid (∀ W, Calls Tryz.prog 32 #[.string s] W fun e w' => e = .returned (.string s) ∧ Below W.heap.size W w') := fun W => clone_any s W (by omega)
 have HD : Hid (∀ w2, Below W1.heap.size W1 w2 → w2.cell? ⟨d, 0, none⟩ = some (.map (some w.heap.size))) := fun w2 hb => by
  rw [cell_at (old_below hd1 hb), Array.getElem?_setIfInBounds, if_pos rfl, if_pos hcs]
 have c1 : W1.cell? ⟨d, 0, none⟩ = some (.map (some w.heap.size)) := HD.out W1 (Below.refl _ _)
 have hdl1 : d < W1.heap.size := by omega
 have HW := Lib.hid hW1
 have HSz := Lib.hid hsz
 clear hblk hc hs hm1 hd1 hf1 hW1 hsz0 hsz
 go_enter Tryz.func95, Tryz.ntmps95
 go_wp2
 rw [← HW.out]
 clear c0 f0 hmm
 go_region_with ((go_at_call 32; (with_reducible refine (HC.out _).mono ?_); rintro e w2 ⟨rfl, hb⟩; have hb2 : Below W1.heap.size W1 w2 := Below.trans (by first | exact ((Below.refl _ _).alloc (Nat.le_refl _) _).drew | exact (Below.refl _ _).alloc (Nat.le_refl _) _) (hb.mono (by simp)); have c2 := HD.out w2 hb2; obtain ⟨w3, hrun, hpost⟩ := HP.out w2 hb2 ((hb.block (w.heap.size + 1) (by simp [HSz.out])).trans (by have := heap_alloc_new W1 (.cells freshCells 148); rw [HSz.out] at this; exact this)); have HPo := Lib.hid hpost; clear hpost))
 all_goals
  go_wp2
  go_ret
  exact HPo.out
def restF (L : Files) (n : List UInt8) : Files := L.filter (fun p => p.1 != n)
theorem rest_perm {L : Files} (hn : (L.map (·.1)).Nodup) {n : List UInt8} {F : Fl} (hm : (n, F) ∈ L) : L.Perm ((n, F) :: restF L n) := by
 have h := todo_step (lf := fun _ => true) rfl hn hm
 have e1 : todoL L (fun _ => true) = L := List.filter_eq_self.2 (fun _ _ => rfl)
 have e2 : todoL L (fun k => true && !(k == n)) = restF L n := by
  unfold todoL restF
  apply List.filter_congr
  intro p _
  simp [bne]
 rw [e1, e2] at h
 exact h
theorem rest_ne {L : Files} {n : List UInt8} : ∀ p ∈ restF L n, p.1 ≠ n := fun p hp => by
 have := (List.mem_filter.1 hp).2
 simpa using this
theorem rest_sub (L : Files) (n : List UInt8) : (restF L n).Sublist L := List.filter_sublist
theorem getF_some {L : Files} (hn : (L.map (·.1)).Nodup) {n : List UInt8} {F : Fl} (hm : (n, F) ∈ L) : getF L n = some F := by
 induction L with
 | nil => simp at hm
 | cons p r ih =>
  rw [List.map_cons, List.nodup_cons] at hn
  unfold getF
  rw [List.find?_cons]
  rcases List.mem_cons.1 hm with e | hm
  ·rw [← e]; simp
  ·have hne : p.1 ≠ n := fun e => hn.1 (List.mem_map.2 ⟨_, hm, e.symm⟩)
   have h2 : (p.1 == n) = false := by simpa using hne
   rw [h2]
   exact ih hn.2 hm
theorem FilesOk.perm {w : World} {L M : Files} (h : FilesOk w L) (hp : L.Perm M) : FilesOk w M where
 at' := fun p hm => h.at' p (hp.mem_iff.2 hm)
 ok := fun p hm => h.ok p (hp.mem_iff.2 hm)
 names := (hp.map _).nodup_iff.1 h.names
 apart := hp.pairwise h.apart (fun {a b} hab k h1 h2 => hab k h2 h1)
 few := by rw [← hp.length_eq]; exact h.few
 long := fun p hm => h.long p (hp.mem_iff.2 hm)
 tnd := ((allW_perm hp).map _).nodup_iff.1 h.tnd
theorem allW_cons (n : List UInt8) (F : Fl) (L : Files) : allW ((n, F) :: L) = F.ws ++ allW L := rfl
theorem DiskAt.kinds {w : World} {d : Nat} {K : Dk} (h : DiskAt w d K) : ∀ k, K.wfoot d k → (∃ es cl, w.heap[k]? = some (.map es cl)) ∨ ∃ c t, w.heap[k]? = some (.cells c t (0, 0)) ∧ (t = 73 ∨ t = 148 ∨ t = 143 ∨ t = 123) := by
 rintro k (rfl | hk | ⟨p, hp, hk⟩)
 ·exact .inr ⟨_, _, h.blk, .inl rfl⟩
 ·rcases h.map with ⟨h1, _⟩ | ⟨b, D, h1, ⟨es, cl, h2, _⟩, _⟩
  ·rw [h1] at hk; cases hk
  ·rw [h1] at hk
   obtain rfl : b = k := by simpa using hk
   exact .inl ⟨_, _, h2⟩
 ·obtain ⟨c, t, h1, h2⟩ := (h.files.at' p hp).kinds k hk
  exact .inr ⟨c, t, h1, .inr h2⟩
theorem DiskAt.kvfar {w : World} {d : Nat} {K : Dk} (h : DiskAt w d K) : ∀ g, K.kv.ownBlock = some g → ¬ K.wfoot d g := by
 intro g hg hk
 have hrow : ∃ c, w.heap[g]? = some (.cells c 3 (0, 0)) := by
  rcases h.keep.2 with ⟨h0, _⟩ | ⟨g', cap, cur, h0, _, h2, _⟩
  ·rw [h0] at hg; cases hg
  ·rw [h0] at hg
   obtain rfl : g' = g := by simpa [Value.ownBlock] using hg
   exact ⟨_, h2⟩
 obtain ⟨c, hc⟩ := hrow
 rcases h.kinds g hk with ⟨es, cl, h1⟩ | ⟨c', t, h1, h2⟩
 ·rw [hc] at h1; cases h1
 ·rw [hc] at h1
  simp at h1
  obtain ⟨_, rfl⟩ := h1
  rcases h2 with h | h | h | h <;> exact absurd h (by decide)
theorem DiskAt.keepR {w : World} {d : Nat} {K : Dk} (h : DiskAt w d K) : IntsR (K.wfoot d) w K.kv K.keep := by
 rcases h.keep.2 with ⟨h0, h1⟩ | ⟨g, cap, cur, h0, _, h2, h3, h4, h5, h6⟩
 ·exact .inl ⟨none, 0, h0, List.length_eq_zero_iff.1 h1⟩
 ·refine .inr ⟨g, 0, cap, h0, lt_of_block h2, h.kvfar g (by rw [h0]; rfl), fun j x hj => ?_⟩
  have hr := h.keep
  rw [h0] at hr
  rw [Nat.zero_add]
  exact owns_cell hr (by unfold ivs; rw [List.getElem?_map, hj]; rfl)
theorem DiskAt.mapNe {w : World} {d : Nat} {K : Dk} (h : DiskAt w d K) : K.m ≠ some d := by
 intro e
 rcases h.map with ⟨h1, _⟩ | ⟨b, D, h1, ⟨es, cl, h2, _⟩, _⟩
 ·rw [h1] at e; cases e
 ·rw [h1] at e
  obtain rfl : b = d := by simpa using e
  rw [h.blk] at h2; cases h2
theorem DiskAt.fileNe {w : World} {d : Nat} {K : Dk} (h : DiskAt w d K) : ∀ p ∈ K.files, ¬ p.2.foot d := by
 intro p hp hk
 obtain ⟨c, t, h1, h2⟩ := (h.files.at' p hp).kinds d hk
 rw [h.blk] at h1
 simp at h1
 obtain ⟨_, rfl⟩ := h1
 rcases h2 with h | h | h <;> exact absurd h (by decide)
theorem DiskAt.kvNe {w : World} {d : Nat} {K : Dk} (h : DiskAt w d K) : K.kv.ownBlock ≠ some d := fun e => h.kvfar d e (.inl rfl)
theorem DiskAt.own {w w' : World} {d : Nat} {K K' : Dk} (h : DiskAt w d K) (ho : Only d w w') (hb : w'.heap[d]? = some (.cells K'.cells 73 (0, 0))) (hm : K'.m = K.m) (hf : K'.files = K.files) (hk : w'.ownsRow 0 3 1 K'.kv K'.keep.length (ivs K'.keep)) (ht : K.turn ≤ K'.turn) (hmany : K'.turn ≤ 9000) : DiskAt w' d K' := by
 have hfr : Fr (· = d) w w' := Fr.only ho rfl
 refine ⟨hb, hk, ?_, ?_, ?_, ?_, ?_⟩
 ·rw [hm, hf]
  exact h.map.fr hfr (fun b hb e => h.mapNe (e ▸ hb))
 ·rw [hf]
  exact { h.files with at' := fun p hp => (h.files.at' p hp).fr hfr (fun k hk e => h.fileNe p hp (e ▸ hk)) }
 ·rw [hf]; exact h.still
 ·rw [hf]; exact fun x hx => Nat.le_trans (h.turns x hx) ht
 ·rw [hf]; have := h.many; exact ⟨by omega, hmany⟩
theorem DiskAt.keepOnly {w w' : World} {d : Nat} {K : Dk} (h : DiskAt w d K) (ho : Only d w w') : w'.ownsRow 0 3 1 K.kv K.keep.length (ivs K.keep) :=
 owns_keep h.keep (fun g hg => ho.block g (h.keep.lt g hg).2 (fun e => h.kvNe (e ▸ hg)))
theorem DiskAt.file {w w' : World} {d : Nat} {K : Dk} {n : List UInt8} {F F' : Fl} (h : DiskAt w d K) (hm : (n, F) ∈ K.files) (hF : FileAt w' F') (hf : Fr F.foot w w') (hb : F'.b = F.b) (hfoot : ∀ k, F'.foot k → F.foot k ∨ w.heap.size ≤ k) (hok : FileOk F')
  (hst : ∀ x ∈ F'.ws, x.kept = 0) (htu : ∀ x ∈ F'.ws, x.turn ≤ K.turn) (htn : (F'.ws.map (·.turn) ++ (allW (restF K.files n)).map (·.turn)).Nodup) (hlen : F'.ws.length + (allW (restF K.files n)).length ≤ K.turn) :
  DiskAt w' d { K with files := (n, F') :: restF K.files n } ∧ (∀ k, ({ K with files := (n, F') :: restF K.files n } : Dk).foot d k → K.foot d k ∨ w.heap.size ≤ k) := by
 have hp := rest_perm h.files.names hm
 have h2 := h.files.perm hp
 have hna := h2.names
 have hap := h2.apart
 rw [List.pairwise_cons] at hap
 have hsub := rest_sub K.files n
 have hrest : ∀ p ∈ restF K.files n, FileAt w' p.2 := fun p hp => (h.files.at' p (hsub.subset hp)).fr hf (fun k hk hk2 => hap.1 p hp k hk2 hk)
 refine ⟨⟨hf.keep h.blk (h.fileNe _ hm), ?_, ?_, ⟨?_, ?_, ?_, ?_, ?_, ?_, ?_⟩, ?_, ?_, ?_⟩, ?_⟩
 ·exact owns_fr h.keep hf (fun g hg hk => h.kvfar g hg (.inr (.inr ⟨_, hm, hk⟩)))
 ·have h3 : MapAt w K.m (dir ((n, F') :: restF K.files n)) := by
   have := looks_perm h.map (dir_perm hp)
   have e : dir ((n, F') :: restF K.files n) = dir ((n, F) :: restF K.files n) := by unfold dir; simp [hb]
   rw [e]; exact this
  refine h3.fr hf (fun b hb hk => ?_)
  obtain ⟨c, t, h4, _⟩ := (h.files.at' _ hm).kinds b hk
  rcases h.map with ⟨h5, _⟩ | ⟨b', D, h5, ⟨es, cl, h6, _⟩, _⟩
  ·rw [h5] at hb; cases hb
  ·rw [h5] at hb
   obtain rfl : b' = b := by simpa using hb
   rw [h6] at h4; cases h4
 ·intro p hp
  rcases List.mem_cons.1 hp with rfl | hp
  ·exact hF
  ·exact hrest p hp
 ·intro p hp
  rcases List.mem_cons.1 hp with rfl | hp
  ·exact hok
  ·exact h.files.ok p (hsub.subset hp)
 ·exact hna
 ·rw [List.pairwise_cons]
  refine ⟨fun p hp k hk hk2 => ?_, hap.2⟩
  rcases hfoot k hk with h3 | h3
  ·exact hap.1 p hp k h3 hk2
  ·have := (h.files.at' p (hsub.subset hp)).lt k hk2
   omega
 ·have := h2.few
  exact this
 ·intro p hp
  rcases List.mem_cons.1 hp with rfl | hp
  ·exact h.files.long (n, F) hm
  ·exact h.files.long p (hsub.subset hp)
 ·rw [allW_cons, List.map_append]; exact htn
 ·intro x hx
  have hx2 : x ∈ F'.ws ++ allW (restF K.files n) := hx
  rcases List.mem_append.1 hx2 with hx | hx
  ·exact hst x hx
  ·obtain ⟨p, hp, hxp⟩ := allW_mem.1 hx
   exact h.still x (allW_mem.2 ⟨p, hsub.subset hp, hxp⟩)
 ·intro x hx
  have hx2 : x ∈ F'.ws ++ allW (restF K.files n) := hx
  rcases List.mem_append.1 hx2 with hx | hx
  ·exact htu x hx
  ·obtain ⟨p, hp, hxp⟩ := allW_mem.1 hx
   exact h.turns x (allW_mem.2 ⟨p, hsub.subset hp, hxp⟩)
 ·show (F'.ws ++ allW (restF K.files n)).length ≤ K.turn ∧ _
  rw [List.length_append]
  exact ⟨hlen, h.many.2⟩
 ·rintro k (rfl | hk | ⟨p, hp, hk⟩ | hk)
  ·exact .inl (.inl rfl)
  ·exact .inl (.inr (.inl hk))
  ·rcases List.mem_cons.1 hp with rfl | hp
   ·exact (hfoot k hk).imp (fun h3 => .inr (.inr (.inl ⟨_, hm, h3⟩))) id
   ·exact .inl (.inr (.inr (.inl ⟨p, hsub.subset hp, hk⟩)))
  ·exact .inl (.inr (.inr (.inr hk)))
def usedOf (L : Files) : Nat := sumOf (fun F => F.secs.length) L
def fullOf (K : Dk) : Bool := decide (0 < K.room) && decide (K.room ≤ (usedOf K.files : Int))
theorem DiskAt.used {w : World} {d : Nat} {K : Dk} (h : DiskAt w d K) : Calls Tryz.prog 76 #[.pointer (some ⟨d, 0, none⟩)] w fun e w' => e = .returned (.int .i64 (usedOf K.files : Nat)) ∧ Below w.heap.size w w' :=
 used_any w d K.m K.files (cell_at h.blk 0) h.map h.files.names h.files.at' h.files.ok (by have := h.files.few; omega)
theorem DiskAt.dirty {w : World} {d : Nat} {K : Dk} (h : DiskAt w d K) : Calls Tryz.prog 78 #[.pointer (some ⟨d, 0, none⟩)] w fun e w' => e = .returned (.int .i64 ((allW K.files).length : Nat)) ∧ Below w.heap.size w w' := by
 rw [allW_length]
 exact dirty_any w d K.m K.files (cell_at h.blk 0) h.map h.files.names h.files.at' h.files.ok (by have := h.files.few; omega)
theorem DiskAt.full {w : World} {d : Nat} {K : Dk} (h : DiskAt w d K) : Calls Tryz.prog 94 #[.pointer (some ⟨d, 0, none⟩)] w fun e w' => e = .returned (.bool (fullOf K)) ∧ Below w.heap.size w w' := by
 have c2 : w.cell? ⟨d, 2, none⟩ = some (.int .i64 K.room) := cell_at h.blk 2
 have HU : Hid (∀ W, Below w.heap.size w W → Calls Tryz.prog 76 #[.pointer (some ⟨d, 0, none⟩)] W fun e w' => e = .returned (.int .i64 (usedOf K.files : Nat)) ∧ Below W.heap.size W w' ∧ w'.cell? ⟨d, 2, none⟩ = some (.int .i64 K.room)) := fun W hW =>
  ((h.below hW).used).mono fun e w' ⟨h1, h2⟩ => ⟨h1, h2, cell_at (old_below (h.below hW).blk h2) 2⟩
 have hB : ∀ W W' : World, Below w.heap.size w W → Below W.heap.size W W' → Below w.heap.size w W' := fun W W' h1 h2 => thenBelow h1 h2
 have HB := Lib.hid hB
 unfold fullOf
 generalize K.room = r at *
 generalize (usedOf K.files) = u at *
 clear h hB
 by_cases hr : 0 < r
 ·rw [decide_eq_true hr, Bool.true_and]
  have hd : decide (0 < r) = true := decide_eq_true hr
  go_enter Tryz.func94, Tryz.ntmps94
  go_wp2
  go_region_held3 (fun w' => w'.cell? ⟨d, 2, none⟩ = some (.int .i64 r)) (first | exact c2 | exact d2)
   ((first | (go_at_call 76; (with_reducible refine (HU.out _ (by first | exact below_drewN _ _ | exact (Below.refl _ _).drew | exact Below.refl _ _)).mono ?_); rintro e w3 ⟨rfl, hb3, d2⟩)))
  all_goals
   go_wp2
   go_ret
   exact ⟨rfl, thenBelow ((Below.refl _ w).drew) hb3⟩
 ·rw [decide_eq_false hr, Bool.false_and]
  have hd : decide (0 < r) = false := decide_eq_false hr
  go_enter Tryz.func94, Tryz.ntmps94
  go_wp2
  go_quiet (fail)
  go_wp2
  go_ret
  exact ⟨rfl, below_drewN _ _⟩
structure Step (w : World) (d : Nat) (K : Dk) (w' : World) (K' : Dk) : Prop where
 at' : DiskAt w' d K'
 foot : ∀ k, K'.foot d k → K.foot d k ∨ w.heap.size ≤ k
 fr : Fr (K.foot d) w w'
theorem wfoot_foot {K : Dk} {d k : Nat} (h : K.wfoot d k) : K.foot d k := by
 rcases h with h | h | h
 ·exact .inl h
 ·exact .inr (.inl h)
 ·exact .inr (.inr (.inl h))
theorem Step.below {w w' : World} {d : Nat} {K : Dk} (h : DiskAt w d K) (hb : Below w.heap.size w w') : Step w d K w' K := ⟨h.below hb, fun _ hk => .inl hk, .of hb⟩
theorem Step.trans {w w' w'' : World} {d : Nat} {K K' K'' : Dk} (h : Step w d K w' K') (k : Step w' d K' w'' K'') : Step w d K w'' K'' := by
 have hs := h.fr.size
 refine ⟨k.at', fun i hi => ?_, ?_⟩
 ·rcases k.foot i hi with h1 | h1
  ·exact h.foot i h1
  ·exact .inr (by omega)
 ·have f1 : Fr (fun i => K.foot d i ∨ w.heap.size ≤ i) w w' := h.fr.mono (fun _ _ h => .inl h)
  have f2 : Fr (fun i => K.foot d i ∨ w.heap.size ≤ i) w' w'' := k.fr.mono (fun i _ hi => h.foot i hi)
  exact (f1.trans f2).mono (fun i hi h => h.elim id (fun e => by omega))
theorem Crashed.step {w w' : World} {d : Nat} {K K' : Dk} {ks : List Int} {n : Int} (h : Crashed w d K ks n K' w') : Step w d K w' K' :=
 ⟨h.at', fun k hk => .inl (wfoot_foot (h.foot k hk)), h.fr.mono (fun _ _ hk => wfoot_foot hk)⟩
theorem Step.own {w w' : World} {d : Nat} {K K' : Dk} (h : DiskAt w d K) (ho : Only d w w') (hb : w'.heap[d]? = some (.cells K'.cells 73 (0, 0))) (hm : K'.m = K.m) (hf : K'.files = K.files) (hk : K'.kv = K.kv ∧ K'.keep = K.keep) (ht : K.turn ≤ K'.turn) (hmany : K'.turn ≤ 9000) : Step w d K w' K' := by
 refine ⟨h.own ho hb hm hf (by rw [hk.1, hk.2]; exact h.keepOnly ho) ht hmany, fun k hk2 => .inl ?_, .only ho (.inl rfl)⟩
 unfold Dk.foot at hk2
 rw [hm, hf, hk.1] at hk2
 exact hk2
inductive Count : World → Nat → Dk → Int → World → Dk → Prop where
 | free {w w' d K} : K.armed = false → Below w.heap.size w w' → DiskAt w' d K → Count w d K 0 w' K
 | less {w w' d K} : K.armed = true → 0 < K.left → Step w d K w' { K with left := K.left - 1 } → Count w d K 0 w' { K with left := K.left - 1 }
 | falls {w w' d K n K'} : K.armed = true → ¬ 0 < K.left → Crashed w d K K.keep n K' w' → Count w d K 14 w' K'
def CountPost (w : World) (d : Nat) (K : Dk) (e : Ending) (w' : World) : Prop := ∃ n K', e = .returned (.int .i64 n) ∧ Count w d K n w' K'
theorem DiskAt.count {w : World} {d : Nat} {K : Dk} (h : DiskAt w d K) (hon : K.on = true) (hl : K.left ≤ 9223372036854775807) : Calls Tryz.prog 97 #[.pointer (some ⟨d, 0, none⟩)] w (CountPost w d K) := by
 have c4 : w.cell? ⟨d, 4, none⟩ = some (.bool K.armed) := cell_at h.blk 4
 have c5 : w.cell? ⟨d, 5, none⟩ = some (.int .i64 K.left) := cell_at h.blk 5
 have c6 : w.cell? ⟨d, 6, none⟩ = some K.kv := cell_at h.blk 6
 have f5 := free_at h.blk 5
 cases ha : K.armed with
 | false =>
  rw [ha] at c4
  have HF : Hid (CountPost w d K (.returned (.int .i64 0)) w) := ⟨0, K, rfl, .free ha (Below.refl _ _) h⟩
  clear h ha
  go_enter Tryz.func97, Tryz.ntmps97
  go_wp2
  go_ret
  exact HF.out
 | true =>
  rw [ha] at c4
  by_cases h0 : 0 < K.left
  ·have HF : Hid (CountPost w d K (.returned (.int .i64 0)) (w.setCell ⟨d, 5, none⟩ (.int .i64 (K.left - 1)))) := ⟨0, _, rfl, .less ha h0 (.own h ((Only.refl d w).setCell 5 _) (set_at h.blk 5 _) rfl rfl ⟨rfl, rfl⟩ (Nat.le_refl _) h.many.2)⟩
   generalize K.left = n at *
   have k1 : decide (0 < n) = true := decide_eq_true h0
   clear h ha
   go_enter Tryz.func97, Tryz.ntmps97
   go_wp2
   go_ret
   exact HF.out
  ·have HC : Hid (Calls Tryz.prog 25 #[.pointer (some ⟨d, 0, none⟩), K.kv] w fun e w' => ∃ u, e = .returned (.int .i64 u) ∧ CountPost w d K (.returned (.int .i64 14)) w') :=
    (crash_disk h hon h.keepR).mono fun e w' ⟨n, K', h1, h2⟩ => ⟨n, h1, 14, K', rfl, .falls ha h0 h2⟩
   have k1 : decide (0 < K.left) = false := decide_eq_false h0
   generalize K.left = n at *
   obtain ⟨kv, hkv⟩ : ∃ kv, kv = K.kv := ⟨_, rfl⟩
   rw [← hkv] at c6 HC
   obtain ⟨a, cap, hsh⟩ := owns_shape h.keep
   rw [← hkv] at hsh
   generalize K.keep.length = kl at hsh
   subst hsh
   clear h ha hkv
   go_enter Tryz.func97, Tryz.ntmps97
   go_wp2_with (go_at_call 25; (with_reducible refine HC.out.mono ?_); rintro e w' ⟨u, rfl, hp⟩; have HP := Lib.hid hp; clear hp)
   go_ret
   exact HP.out
theorem DiskAt.wrote {W w' : World} {d : Nat} {K : Dk} {n : List UInt8} {F : Fl} {sl : Value} {b i : Nat} {data : ByteArray} (h : DiskAt W d K) (hm : (n, F) ∈ K.files) (hlt : ∀ x ∈ allW K.files, x.turn < K.turn) (hcn : (allW K.files).length < K.turn) (hi : i ≤ F.secs.length) (hi2 : i ≤ 4000) (hd : data.size = 256)
  (hW : Wrote W w' F sl b K.turn i data) : Step W d K w' { K with files := (n, F.write sl b K.turn i data) :: restF K.files n } := by
 have hp := rest_perm h.files.names hm
 have hpa := allW_perm hp
 rw [allW_cons] at hpa
 have hl := hpa.length_eq
 rw [List.length_append] at hl
 have hmany := h.many.2
 have hFw : ∀ x ∈ F.ws, x ∈ allW K.files := fun x hx => allW_mem.2 ⟨_, hm, hx⟩
 have hwl : F.ws.length < 10000 := by omega
 have hok := Fl.write_ok F (h.files.ok _ hm) sl b K.turn i data hi hi2 hd (fun x hx => hlt x (hFw x hx)) hwl
 have htn := (hpa.map (·.turn)).nodup_iff.1 h.files.tnd
 rw [List.map_append] at htn
 have hws : (F.write sl b K.turn i data).ws = F.ws ++ [⟨b, K.turn, i, data, 0, lastAt F.ws i⟩] := rfl
 have hnew : ∀ x ∈ allW (restF K.files n), x.turn < K.turn := fun x hx => hlt x (hpa.mem_iff.2 (List.mem_append_right _ hx))
 have h2 := h.file hm hW.at' hW.fr rfl (fun k hk => ?_) hok (fun x hx => ?_) (fun x hx => ?_) ?_ ?_
 ·exact ⟨h2.1, h2.2, hW.fr.mono (fun k _ hk => .inr (.inr (.inl ⟨_, hm, hk⟩)))⟩
 ·rcases hk with hk | hk | ⟨x, hx, rfl⟩
  ·exact .inl (.inl hk)
  ·exact (hW.row k hk).imp (fun e => .inr (.inl e)) id
  ·rw [hws] at hx
   rcases List.mem_append.1 hx with hx | hx
   ·exact .inl (.inr (.inr ⟨x, hx, rfl⟩))
   ·obtain rfl := List.mem_singleton.1 hx
    exact .inr hW.new
 ·rw [hws] at hx
  rcases List.mem_append.1 hx with hx | hx
  ·exact h.still x (hFw x hx)
  ·obtain rfl := List.mem_singleton.1 hx
   rfl
 ·rw [hws] at hx
  rcases List.mem_append.1 hx with hx | hx
  ·exact h.turns x (hFw x hx)
  ·obtain rfl := List.mem_singleton.1 hx
   exact Nat.le_refl _
 ·rw [hws, List.map_append, List.append_assoc]
  rw [List.nodup_append] at htn ⊢
  refine ⟨htn.1, ?_, fun a ha c hc => ?_⟩
  ·show (K.turn :: (allW (restF K.files n)).map (·.turn)).Nodup
   rw [List.nodup_cons]
   refine ⟨fun hx => ?_, htn.2.1⟩
   obtain ⟨x, hx, e⟩ := List.mem_map.1 hx
   have := hnew x hx
   omega
  ·rcases List.mem_append.1 hc with hc | hc
   ·obtain ⟨x, hx, rfl⟩ := List.mem_map.1 ha
    have := hlt x (hFw x hx)
    simp at hc
    omega
   ·exact htn.2.2 a ha c hc
 ·rw [hws, List.length_append]
  simp
  omega
theorem DiskAt.made {w w' : World} {d b b2 : Nat} {K : Dk} {n : List UInt8} (h : DiskAt w d K) (hg : getF K.files n = none) (hlen : K.files.length < 60) (hn : n.length ≤ 40) (h1 : w.heap.size ≤ b) (h2 : w'.heap[b]? = some (.cells freshCells 148 (0, 0))) (h3 : MapAt w' (some b2) (putL (dir K.files) n b)) (h4 : K.m = some b2 ∨ K.m = none ∧ w.heap.size ≤ b2)
  (h5 : Fr (fun k => k = d ∨ K.m = some k) w w') (h6 : w'.heap[d]? = some (.cells (K.cells.setIfInBounds 0 (.map (some b2))) 73 (0, 0))) : Step w d K w' { K with m := some b2, files := (n, Fl.fresh b) :: K.files } := by
 have hno : ∀ p ∈ K.files, p.1 ≠ n := by
  intro p hp e
  have := getF_some h.files.names (n := n) (F := p.2) (by rw [← e]; exact hp)
  rw [hg] at this; cases this
 have hmf : ∀ p ∈ K.files, ∀ k, p.2.foot k → ¬ (k = d ∨ K.m = some k) := by
  rintro p hp k hk (rfl | e)
  ·exact h.fileNe p hp hk
  ·obtain ⟨c, t, h7, _⟩ := (h.files.at' p hp).kinds k hk
   rcases h.map with ⟨h8, _⟩ | ⟨b', D, h8, ⟨es, cl, h9, _⟩, _⟩
   ·rw [h8] at e; cases e
   ·rw [h8] at e
    obtain rfl : b' = k := by simpa using e
    rw [h9] at h7; cases h7
 have hpl : (putL (dir K.files) n b).Perm (dir ((n, Fl.fresh b) :: K.files)) := by
  unfold putL
  have e : (dir K.files).filter (fun p => p.1 != n) = dir K.files := List.filter_eq_self.2 (fun p hp => by
   obtain ⟨q, hq, rfl⟩ := List.mem_map.1 hp
   have := hno q hq
   simpa using this)
  rw [e]
  exact List.perm_append_comm
 have hfoot : ∀ k, (Fl.fresh b).foot k → k = b := by
  rintro k (hk | hk | ⟨x, hx, _⟩)
  ·exact hk
  ·cases hk
  ·simp [Fl.fresh] at hx
 have hmany := h.many
 refine ⟨⟨h6, owns_fr h.keep h5 (fun g hg hk => h.kvfar g hg (hk.elim .inl (fun e => .inr (.inl e)))), looks_perm h3 hpl, ⟨?_, ?_, ?_, ?_, ?_, ?_, ?_⟩, h.still, h.turns, hmany⟩, ?_, h5.mono (fun k _ hk => hk.elim .inl (fun e => .inr (.inl e)))⟩
 ·intro p hp
  rcases List.mem_cons.1 hp with rfl | hp
  ·exact fresh_at h2
  ·exact (h.files.at' p hp).fr h5 (hmf p hp)
 ·intro p hp
  rcases List.mem_cons.1 hp with rfl | hp
  ·exact fresh_ok b
  ·exact h.files.ok p hp
 ·show (n :: K.files.map (·.1)).Nodup
  rw [List.nodup_cons]
  refine ⟨fun hx => ?_, h.files.names⟩
  obtain ⟨p, hp, e⟩ := List.mem_map.1 hx
  exact hno p hp e
 ·rw [List.pairwise_cons]
  refine ⟨fun p hp k hk hk2 => ?_, h.files.apart⟩
  have := (h.files.at' p hp).lt k hk2
  have := hfoot k hk
  omega
 ·show K.files.length + 1 ≤ 60
  omega
 ·intro p hp
  rcases List.mem_cons.1 hp with rfl | hp
  ·exact hn
  ·exact h.files.long p hp
 ·exact h.files.tnd
 ·rintro k (rfl | hk | ⟨p, hp, hk⟩ | hk)
  ·exact .inl (.inl rfl)
  ·have hk2 : b2 = k := by simpa using hk
   rcases h4 with e | ⟨_, e⟩
   ·exact .inl (.inr (.inl (by rw [e, hk2])))
   ·exact .inr (by omega)
  ·rcases List.mem_cons.1 hp with rfl | hp
   ·have := hfoot k hk
    exact .inr (by omega)
   ·exact .inl (.inr (.inr (.inl ⟨p, hp, hk⟩)))
  ·exact .inl (.inr (.inr (.inr hk)))
end Go.Proofs.YtbkngnjkaledlaaGreat.P4
