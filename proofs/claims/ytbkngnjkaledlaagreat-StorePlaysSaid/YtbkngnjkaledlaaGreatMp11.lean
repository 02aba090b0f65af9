/-
  Texts of the proof of SaidPlay8b.
-/
import Derived.Test.YtbkngnjkaledlaaGreatMp10
import Derived.Lib.BufferRead
set_option maxRecDepth 100000
namespace Go.Proofs.YtbkngnjkaledlaaGreat.P4
open Go Go.RowKit Go.Lib Go.Maps Go.ChangeMaps Go.MapKept P3
theorem crash_off (w : World) (d : Nat) (v : Value) (c1 : w.cell? ⟨d, 1, none⟩ = some (.bool false)) : Calls Tryz.prog 25 #[.pointer (some ⟨d, 0, none⟩), v] w fun e w' => e = .returned (.int .i64 0) ∧ w = w' := by
 have H := Lib.hid (on_any w d false c1)
 go_enter Tryz.func25, Tryz.ntmps25
 go_wp2_with (go_at_call 31; (with_reducible refine H.out.mono ?_); rintro e w' ⟨rfl, rfl⟩)
 go_ret
 exact ⟨rfl, rfl⟩
theorem infoByte4 : (Tryz.prog.info? 5).map (fun i => (i.zero, i.size, i.bytes)) = some (some (.int .u8 0), 1, 1) := by kernel_rfl
def fillAt (s : ByteArray) (i : Nat) : UInt8 := s.data.toList.getD (i % s.size) 0
def fillL (s : ByteArray) : List UInt8 := (List.range 256).map (fillAt s)
def fillB (s : ByteArray) : ByteArray := ⟨(fillL s).toArray⟩
theorem fillB_size (s : ByteArray) : (fillB s).size = 256 := by simp [fillB, fillL, ByteArray.size]
def rowB (s : ByteArray) (k : Nat) : Array Value := ((List.range 256).map fun i => Value.int .u8 (if i < k then ((fillAt s i).toNat : Int) else 0)).toArray
theorem rowB_zero (s : ByteArray) : madeCells #[.int .u8 0] 256 = rowB s 0 := by
 apply Array.ext'
 unfold rowB
 apply List.ext_getElem?
 intro i
 by_cases h : i < 256
 ·simp [madeCells, h, Nat.mod_one]
 ·simp [madeCells, h]
theorem rowB_step (s : ByteArray) (k : Nat) : (rowB s k).setIfInBounds k (.int .u8 ((fillAt s k).toNat : Int)) = rowB s (k + 1) := by
 apply Array.ext'
 unfold rowB
 apply List.ext_getElem?
 intro i
 by_cases h : i < 256
 ·by_cases hik : k = i
  ·subst hik
   simp [h]
  ·have e : (i < k + 1) = (i < k) := by apply propext; omega
   simp [h, List.getElem?_set, hik, e]
 ·simp [h, List.getElem?_set]
theorem rowB_nil (s : ByteArray) (hs : s.size = 0) (k : Nat) : rowB s (k + 1) = rowB s k := by
 have hl : s.data.toList = [] := List.eq_nil_of_length_eq_zero (by rw [← hs]; simp)
 have hf : ∀ i, fillAt s i = 0 := fun i => by unfold fillAt; rw [hl]; rfl
 unfold rowB
 congr 1
 apply List.map_congr_left
 intro i _
 rw [hf]
 simp
theorem rowB_full (s : ByteArray) : (rowB s 256).toList.take (fillL s).length = byteCells (fillL s) := by
 have e : (rowB s 256).toList = byteCells (fillL s) := by
  unfold rowB fillL byteCells
  rw [List.toList_toArray, List.map_map]
  apply List.map_congr_left
  intro i hi
  have : i < 256 := List.mem_range.1 hi
  simp [this]
 rw [e]
 apply List.take_of_length_le
 simp [byteCells]
theorem made_row4 (w : World) : (Instr.makeSlice 141 (.int .i64 256) (.int .i64 256)).run Tryz.prog w = .ok (.slice (some ⟨w.heap.size, 0, none⟩) 256 256) (w.alloc (.cells (madeCells #[.int .u8 0] 256) 5)) :=
 run_make_row' (P := Tryz.prog) 141 5 (.int .u8 0) 1 Tryz.underlying141 infoByte4 rfl .i64 .i64 256 (by omega) (by omega) w
theorem fill_string {w : World} {X : Nat} (s : ByteArray) (h : w.heap[X]? = some (.cells (rowB s 256) 5 (0, 0))) : (convert 141 9 (.slice (some ⟨X, 0, none⟩) 256 256)).run Tryz.prog w = .ok (.string (fillB s)) w := by
 have e := run_convert_bytes_back w 141 9 5 ⟨X, 0, none⟩ 256 (fillL s) Tryz.underlying141 Tryz.underlying5 Tryz.underlying9 (bytes_of_row h (rowB_full s))
 rw [show (fillL s).length = 256 from by simp [fillL]] at e
 exact e
theorem fill_not (w : World) (s : ByteArray) : Calls Tryz.prog 52 #[.string s, .bool false] w fun e w' => e = .returned (.string s) ∧ w = w' := by
 go_enter Tryz.func52, Tryz.ntmps52
 go_wp2
 go_ret
 exact ⟨rfl, rfl⟩
theorem fill_own (w : World) (s : ByteArray) (hs : s.size ≤ 9223372036854775807) : Calls Tryz.prog 52 #[.string s, .bool true] w fun e w' => e = .returned (.string (fillB s)) ∧ Below w.heap.size w w' := by
 have hmk : ∀ w : World, (Instr.makeSlice 141 (.int .i64 256) (.int .i64 256)).run Tryz.prog w = .ok (.slice (some ⟨w.heap.size, 0, none⟩) 256 256) (w.alloc (.cells (rowB s 0) 5)) := fun w => by rw [← rowB_zero s]; exact made_row4 w
 have hb0 : Below w.heap.size w (w.alloc (.cells (rowB s 0) 5)) := below_new _ _
 have hn0 := new_at w (rowB s 0) 5
 go_enter Tryz.func52, Tryz.ntmps52
 go_wp2
 obtain ⟨X, hX⟩ : ∃ X, X = w.heap.size := ⟨_, rfl⟩
 rw [← hX] at hb0 hn0 ⊢
 have HX := Lib.hid hX
 clear hX hmk
 go_loopw [13] (fun i wr => ∃ k : Nat, k ≤ 256 ∧ i = .int .i64 k ∧ Hid (wr.heap[X]? = some (.cells (rowB s k) 5 (0, 0))) ∧ Hid (Below X w wr)) (fun i _ => 256 - (RowKit.intOf i).toNat)
 case atStart => exact ⟨0, by omega, rfl, hn0, hb0⟩
 case round =>
  obtain ⟨k, hk, rfl, hrow, hbel⟩ := hrel
  have hnb : (0 : Int) ≤ (k : Int) := by omega
  by_cases hk2 : k = 256
  ·subst hk2
   have hcv := fill_string s hrow.out
   obtain ⟨z, hz⟩ : ∃ z, z = fillB s := ⟨_, rfl⟩
   rw [← hz] at hcv
   have HZ := Lib.hid hz
   clear hz hs hn0 hb0
   go_wp2
   go_ret
   exact ⟨by rw [← HZ.out]; rfl, HX.out ▸ hbel.out⟩
  ·have hlt : k < 256 := by omega
   clear hn0 hb0 hk hk2
   by_cases hs0 : s.size = 0
   ·have HN : Hid (wr.heap[X]? = some (.cells (rowB s (k + 1)) 5 (0, 0))) := by rw [rowB_nil s hs0]; exact hrow
    go_wp2
    go_roundw
    case rel => exact ⟨k + 1, by omega, by go_num, HN, hbel⟩
    case measure => simp [RowKit.intOf]; omega
   ·have hpos : 0 < s.size := by omega
    obtain ⟨r, hr⟩ : ∃ r, r = k % s.size := ⟨_, rfl⟩
    have hrs : r < s.size := by rw [hr]; exact Nat.mod_lt _ hpos
    have hri : (k : Int) % (s.size : Int) = (r : Int) := by rw [hr]; omega
    have hcell : wr.cell? ⟨X, k, none⟩ = some (.int .u8 0) := by
     rw [cell_at hrow.out]; simp [rowB, hlt]
    have hfree := free_at hrow.out k
    have HS := Lib.hid hs0
    have HR := Lib.hid hr
    clear hs0 hr
    go_wp2
    have hby : fillAt s k = s[r] := by
     unfold fillAt
     rw [← HR.out, List.getD_eq_getElem?_getD, List.getElem?_eq_getElem (by simpa using hrs)]
     rfl
    have HN : Hid ((wr.setCell ⟨X, k, none⟩ (.int .u8 (s[r].toNat : Int))).heap[X]? = some (.cells (rowB s (k + 1)) 5 (0, 0))) := by
     have e := set_at hrow.out k (.int .u8 (s[r].toNat : Int))
     rw [← hby, rowB_step, hby] at e
     exact e
    have HB : Hid (Below X w (wr.setCell ⟨X, k, none⟩ (.int .u8 (s[r].toNat : Int)))) := hbel.out.setCell (Nat.le_refl X) _
    go_roundw
    case rel => exact ⟨k + 1, by omega, by go_num, HN, HB⟩
    case measure => simp [RowKit.intOf]; omega
def readE (K : Dk) (s : ByteArray) (i : Int) : Int :=
 if errF K.on s.size (getF K.files s.data.toList) ≠ 0 then errF K.on s.size (getF K.files s.data.toList)
 else if i < 0 ∨ (sizeN K.files s.data.toList : Int) ≤ i then 15 else 0
def nowOf (o : Option Fl) (i : Nat) : ByteArray := match o with | none => ⟨#[]⟩ | some F => match F.secs[i]? with | none => ⟨#[]⟩ | some x => x.now
def readT (K : Dk) (s : ByteArray) (i : Int) : ByteArray := if readE K s i ≠ 0 then ⟨#[]⟩ else nowOf (getF K.files s.data.toList) i.toNat
def ReadPost (w : World) (K : Dk) (s : ByteArray) (i : Int) (e : Ending) (w' : World) : Prop := e = .returned (.tuple #[.string (readT K s i), .int .i64 (readE K s i)]) ∧ Below w.heap.size w w'
theorem errF_zero {on : Bool} {n : Nat} {o : Option Fl} (h : errF on n o = 0) : errn on n = 0 ∧ ∃ F, o = some F := by
 unfold errF at h
 by_cases he : errn on n = 0
 ·rw [if_pos he] at h
  cases o with
  | none => exact absurd h (by decide)
  | some F => exact ⟨he, F, rfl⟩
 ·rw [if_neg he] at h
  exact absurd h he
theorem read_err {w : World} {d : Nat} (s : ByteArray) (i : Int) (v : Value) (z : Int) (hz : (z != 0) = true) (H : Hid (Calls Tryz.prog 98 #[.pointer (some ⟨d, 0, none⟩), .string s] w fun e w' => e = .returned (.tuple #[v, .int .i64 z]) ∧ Below w.heap.size w w')) :
  Calls Tryz.prog 65 #[.pointer (some ⟨d, 0, none⟩), .string s, .int .i64 i] w fun e w' => e = .returned (.tuple #[.string ⟨#[]⟩, .int .i64 z]) ∧ Below w.heap.size w w' := by
 go_enter Tryz.func65, Tryz.ntmps65
 go_wp2_with (go_at_call 98; (with_reducible refine H.out.mono ?_); rintro e w' ⟨rfl, hb⟩; have HB := Lib.hid hb; clear hb)
 go_ret2
 exact ⟨rfl, HB.out⟩
theorem read_low {w : World} {d b : Nat} (s : ByteArray) (i : Int) (hi : i < 0) (H : Hid (Calls Tryz.prog 98 #[.pointer (some ⟨d, 0, none⟩), .string s] w fun e w' => e = .returned (.tuple #[.pointer (some ⟨b, 0, none⟩), .int .i64 0]) ∧ Below w.heap.size w w')) :
  Calls Tryz.prog 65 #[.pointer (some ⟨d, 0, none⟩), .string s, .int .i64 i] w fun e w' => e = .returned (.tuple #[.string ⟨#[]⟩, .int .i64 15]) ∧ Below w.heap.size w w' := by
 go_enter Tryz.func65, Tryz.ntmps65
 go_wp2_with (go_at_call 98; (with_reducible refine H.out.mono ?_); rintro e w' ⟨rfl, hb⟩; have HB := Lib.hid hb; clear hb)
 go_ret2
 exact ⟨rfl, HB.out⟩
theorem read_high {w : World} {d b n : Nat} (s : ByteArray) (i : Int) (hi0 : ¬ i < 0) (hi : (n : Int) ≤ i) (H : Hid (Calls Tryz.prog 98 #[.pointer (some ⟨d, 0, none⟩), .string s] w fun e w' => e = .returned (.tuple #[.pointer (some ⟨b, 0, none⟩), .int .i64 0]) ∧ Below w.heap.size w w'))
  (HS : Hid (∀ W, Below w.heap.size w W → Calls Tryz.prog 93 #[.pointer (some ⟨b, 0, none⟩)] W fun e w' => e = .returned (.int .i64 n) ∧ W = w')) :
  Calls Tryz.prog 65 #[.pointer (some ⟨d, 0, none⟩), .string s, .int .i64 i] w fun e w' => e = .returned (.tuple #[.string ⟨#[]⟩, .int .i64 15]) ∧ Below w.heap.size w w' := by
 go_enter Tryz.func65, Tryz.ntmps65
 go_wp2_with (first
  | (go_at_call 98; (with_reducible refine H.out.mono ?_); rintro e w' ⟨rfl, hb⟩; have HB := Lib.hid hb; clear hb)
  | (go_at_call 93; (with_reducible refine (HS.out _ HB.out).mono ?_); rintro e w2 ⟨rfl, rfl⟩))
 go_ret2
 exact ⟨rfl, HB.out⟩
theorem read_there {w : World} {d b n g cap : Nat} (s t : ByteArray) (i : Nat) (hi : i < n) (H : Hid (Calls Tryz.prog 98 #[.pointer (some ⟨d, 0, none⟩), .string s] w fun e w' => e = .returned (.tuple #[.pointer (some ⟨b, 0, none⟩), .int .i64 0]) ∧ Below w.heap.size w w'))
  (HS : Hid (∀ W, Below w.heap.size w W → Calls Tryz.prog 93 #[.pointer (some ⟨b, 0, none⟩)] W fun e w' => e = .returned (.int .i64 n) ∧ W = w'))
  (HC : Hid (∀ W, Below w.heap.size w W → W.cell? ⟨b, 0, none⟩ = some (.slice (some ⟨g, 0, none⟩) n cap) ∧ W.cell? ⟨g, i * 3, none⟩ = some (.string t))) :
  Calls Tryz.prog 65 #[.pointer (some ⟨d, 0, none⟩), .string s, .int .i64 i] w fun e w' => e = .returned (.tuple #[.string t, .int .i64 0]) ∧ Below w.heap.size w w' := by
 have h1 : ¬ ((i : Int) < 0) := by omega
 have h2 : ¬ ((n : Int) ≤ (i : Int)) := by omega
 have h3 : (0 : Int) ≤ (i : Int) := by omega
 have h4 : (i : Int) < (n : Int) := by omega
 go_enter Tryz.func65, Tryz.ntmps65
 go_wp2_with (first
  | (go_at_call 98; (with_reducible refine H.out.mono ?_); rintro e w' ⟨rfl, hb⟩; obtain ⟨q0, q1⟩ := HC.out _ hb; have HB := Lib.hid hb; clear hb)
  | (go_at_call 93; (with_reducible refine (HS.out _ HB.out).mono ?_); rintro e w2 ⟨rfl, rfl⟩))
 go_ret2
 exact ⟨rfl, HB.out⟩
theorem DiskAt.read {w : World} {d : Nat} {K : Dk} (h : DiskAt w d K) (s : ByteArray) (i : Int) (hs : s.size ≤ maxLen) :
  Calls Tryz.prog 65 #[.pointer (some ⟨d, 0, none⟩), .string s, .int .i64 i] w (ReadPost w K s i) := by
 have HF := h.find s hs
 unfold ReadPost
 by_cases he : errF K.on s.size (getF K.files s.data.toList) ≠ 0
 ·have e : readE K s i = errF K.on s.size (getF K.files s.data.toList) := by unfold readE; rw [if_pos he]
  have e2 : readT K s i = ⟨#[]⟩ := by unfold readT; rw [if_pos (by rw [e]; exact he)]
  rw [e, e2]
  obtain ⟨p, hp⟩ := ptr_shape (if errn K.on s.size = 0 then (getF K.files s.data.toList).map (·.b) else none)
  rw [hp] at HF
  exact read_err s i _ _ (by simpa using he) HF
 ·have he : errF K.on s.size (getF K.files s.data.toList) = 0 := Decidable.not_not.1 he
  obtain ⟨h0, F, hF⟩ := errF_zero he
  rw [he, if_pos h0, hF] at HF
  have hm := getF_mem hF
  have hz : sizeN K.files s.data.toList = F.secs.length := by unfold sizeN; rw [hF]
  have hfl := h.files.at' _ hm
  have HS : Hid (∀ W, Below w.heap.size w W → Calls Tryz.prog 93 #[.pointer (some ⟨F.b, 0, none⟩)] W fun e w' => e = .returned (.int .i64 F.secs.length) ∧ W = w') := fun W hW => (hfl.below hW).size
  have e0 : readE K s i = if i < 0 ∨ (F.secs.length : Int) ≤ i then 15 else 0 := by unfold readE; rw [if_neg (by simpa using he), hz]
  by_cases hi : i < 0 ∨ (F.secs.length : Int) ≤ i
  ·rw [if_pos hi] at e0
   have e2 : readT K s i = ⟨#[]⟩ := by unfold readT; rw [if_pos (by rw [e0]; decide)]
   rw [e0, e2]
   by_cases h1 : i < 0
   ·exact read_low s i h1 HF
   ·exact read_high s i h1 (by omega) HF HS
  ·rw [if_neg hi] at e0
   obtain ⟨j, rfl⟩ : ∃ j : Nat, i = (j : Int) := ⟨i.toNat, by omega⟩
   have hj : j < F.secs.length := by omega
   have e2 : readT K s j = F.secs[j].now := by unfold readT nowOf; rw [if_neg (by rw [e0]; decide), hF, Int.toNat_natCast]; simp [hj]
   rw [e0, e2]
   obtain ⟨g, cap2, _, hg, _⟩ := owns_some hfl.row (by omega : 0 < F.secs.length)
   refine read_there (g := g) (cap := cap2) s _ j hj HF HS (fun W hW => ?_)
   have hW2 := hfl.below hW
   refine ⟨(cell_at hW2.blk 0).trans (by rw [← hg]; rfl), ?_⟩
   have hr := hW2.row
   rw [hg] at hr
   exact owns_cell hr (secs_at F.secs j F.secs[j] (by simp [hj])).1
abbrev AL := List (List UInt8 × AF)
def absL (L : Files) : AL := L.map absP
def wsA (A : AL) : List (Nat × Nat × ByteArray) := A.flatMap (·.2.ws)
theorem wsA_abs (L : Files) : wsA (absL L) = (allW L).map Wr.abs := by
 unfold wsA absL allW
 rw [List.flatMap_map, List.map_flatMap]
 rfl
theorem wsA_perm {A B : AL} (h : A.Perm B) : (wsA A).Perm (wsA B) := h.flatMap_right _
def rankA (l : List (Nat × Nat × ByteArray)) (t : Nat) : Nat := (l.filter (fun x => decide (x.1 < t))).length
def keptA (A : AL) (ks : List Int) (t : Nat) : Nat := clampI (ks.getD (rankA (wsA A) t) 0)
theorem keptA_abs (L : Files) (ks : List Int) : keptOf (allW L) ks = keptA (absL L) ks := by
 funext t
 unfold keptOf keptA rankA rankW
 rw [wsA_abs, List.filter_map, List.length_map]
 rfl
theorem keptA_perm {A B : AL} (h : A.Perm B) (ks : List Int) : keptA A ks = keptA B ks := by
 funext t
 unfold keptA rankA
 rw [((wsA_perm h).filter _).length_eq]
def lostA (κ : Nat → Nat) (A : AL) : Nat := ((wsA A).filter (fun x => decide (κ x.1 < 256))).length
theorem lostA_abs (κ : Nat → Nat) (L : Files) : lostN κ (allW L) = lostA κ (absL L) := by
 unfold lostN lostA
 rw [wsA_abs, List.filter_map, List.length_map]
 rfl
theorem lostA_perm {A B : AL} (h : A.Perm B) (κ : Nat → Nat) : lostA κ A = lostA κ B := ((wsA_perm h).filter _).length_eq
def tripA (κ : Nat → Nat) (x : Nat × Nat × ByteArray) : Nat × Nat × ByteArray := (κ x.1, x.2.1, x.2.2)
def crA (κ : Nat → Nat) (p : List UInt8 × AF) : Option (List UInt8 × AF) :=
 if (p.2.made || decide (0 < (keepAll p.2.safe (p.2.ws.map (tripA κ))).length)) = true then some (p.1, p.2.crash (p.2.ws.map (tripA κ))) else none
theorem crP_mark {p : List UInt8 × Fl} (h : FileOk p.2) {κ : Nat → Nat} {T : List Nat} (hT : ∀ x ∈ p.2.ws, x.turn ∈ T) : crP (p.1, markF κ T p.2) = crA κ (absP p) := by
 have e1 : (markF κ T p.2).ws.map Wr.trip = p.2.abs.ws.map (tripA κ) := by
  show (p.2.ws.map (markW κ T)).map Wr.trip = (p.2.ws.map Wr.abs).map (tripA κ)
  rw [List.map_map, List.map_map]
  apply List.map_congr_left
  intro x hx
  show ((if x.turn ∈ T then κ x.turn else 0), x.pos, x.data) = _
  rw [if_pos (hT x hx)]
  rfl
 have e2 := (size_left (mark_ok κ T h)).2
 rw [e1] at e2
 unfold crP crA
 show (if ((markF κ T p.2).stays || decide (0 < (markF κ T p.2).left)) = true then _ else none) = _
 rw [e2, e1]
 rfl
theorem filterMap_same {α β : Type} {f g : α → Option β} : ∀ {l : List α}, (∀ x ∈ l, f x = g x) → l.filterMap f = l.filterMap g
 | [], _ => rfl
 | x :: r, h => by
  rw [List.filterMap_cons, List.filterMap_cons, h x (by simp), filterMap_same (fun y hy => h y (by simp [hy]))]
theorem crash_list {L : Files} (h : ∀ p ∈ L, FileOk p.2) (κ : Nat → Nat) : (markL κ ((allW L).map (·.turn)) L).filterMap crP = (absL L).filterMap (crA κ) := by
 unfold markL absL
 rw [List.filterMap_map, List.filterMap_map]
 apply filterMap_same
 intro p hp
 exact crP_mark (h p hp) (fun x hx => List.mem_map_of_mem (allW_mem.2 ⟨p, hp, hx⟩))
def getA (A : AL) (n : List UInt8) : Option AF := (A.find? (·.1 == n)).map (·.2)
theorem getA_abs (L : Files) (n : List UInt8) : getA (absL L) n = (getF L n).map Fl.abs := by
 unfold getA getF absL
 rw [List.find?_map, Option.map_map, Option.map_map]
 rfl
theorem getA_mem {A : AL} {n : List UInt8} {F : AF} (h : getA A n = some F) : (n, F) ∈ A := by
 unfold getA at h
 obtain ⟨⟨n', F'⟩, h1, rfl⟩ := Option.map_eq_some_iff.1 h
 have h2 := List.mem_of_find?_eq_some h1
 have h3 := List.find?_some h1
 obtain rfl : n' = n := by simpa using h3
 exact h2
theorem getA_some : ∀ {A : AL} {n : List UInt8} {F : AF}, (A.map (·.1)).Nodup → (n, F) ∈ A → getA A n = some F
 | [], _, _, _, h => by simp at h
 | (m, G) :: r, n, F, hn, h => by
  unfold getA
  by_cases e : m = n
  ·subst e
   rw [List.find?_cons_of_pos (by simp)]
   rcases List.mem_cons.1 h with h | h
   ·cases h; rfl
   ·exact absurd (List.mem_map_of_mem (f := (·.1)) h) (List.nodup_cons.1 hn).1
  ·rw [List.find?_cons_of_neg (by simpa using e)]
   rcases List.mem_cons.1 h with h | h
   ·cases h; exact absurd rfl e
   ·exact getA_some (List.nodup_cons.1 hn).2 h
theorem getA_perm {A B : AL} (hn : (A.map (·.1)).Nodup) (hp : A.Perm B) (n : List UInt8) : getA A n = getA B n := by
 have hn2 : (B.map (·.1)).Nodup := (hp.map _).nodup_iff.1 hn
 cases h : getA B n with
 | some F => exact getA_some hn (hp.mem_iff.2 (getA_mem h))
 | none =>
  cases h2 : getA A n with
  | none => rfl
  | some F =>
   rw [getA_some hn2 (hp.mem_iff.1 (getA_mem h2))] at h
   cases h
def restA (A : AL) (n : List UInt8) : AL := A.filter (fun p => p.1 != n)
theorem rest_abs (L : Files) (n : List UInt8) : absL (restF L n) = restA (absL L) n := by
 unfold absL restF restA
 rw [List.filter_map]
 rfl
theorem restA_perm {A B : AL} (h : A.Perm B) (n : List UInt8) : (restA A n).Perm (restA B n) := h.filter _
def sizeA (A : AL) (n : List UInt8) : Nat := match getA A n with | none => 0 | some F => F.now.length
def nowA (o : Option AF) (i : Nat) : ByteArray := match o with | none => ⟨#[]⟩ | some F => F.now.getD i ⟨#[]⟩
theorem now_abs (L : Files) (n : List UInt8) (i : Nat) : nowOf (getF L n) i = nowA (getA (absL L) n) i := by
 rw [getA_abs]
 cases getF L n with
 | none => rfl
 | some F =>
  show (match F.secs[i]? with | none => _ | some x => x.now) = (F.secs.map (·.now)).getD i ⟨#[]⟩
  rw [List.getD_eq_getElem?_getD, List.getElem?_map]
  cases F.secs[i]? <;> rfl
structure DA (w : World) (d : Nat) (K : Dk) (A : AL) : Prop where
 at' : DiskAt w d K
 abs : (absL K.files).Perm A
theorem absL_names (L : Files) : (absL L).map (·.1) = L.map (·.1) := by unfold absL; rw [List.map_map]; rfl
theorem DA.names {w : World} {d : Nat} {K : Dk} {A : AL} (h : DA w d K A) : (A.map (·.1)).Nodup := (h.abs.map _).nodup_iff.1 (by rw [absL_names]; exact h.at'.files.names)
theorem DA.get {w : World} {d : Nat} {K : Dk} {A : AL} (h : DA w d K A) (n : List UInt8) : (getF K.files n).map Fl.abs = getA A n := by
 rw [← getA_abs]
 exact getA_perm (by rw [absL_names]; exact h.at'.files.names) h.abs n
theorem DA.getNone {w : World} {d : Nat} {K : Dk} {A : AL} (h : DA w d K A) (n : List UInt8) : getF K.files n = none ↔ getA A n = none := by
 rw [← h.get]; simp
theorem DA.size {w : World} {d : Nat} {K : Dk} {A : AL} (h : DA w d K A) (n : List UInt8) : sizeN K.files n = sizeA A n := by
 unfold sizeA; rw [← h.get]; unfold sizeN
 cases getF K.files n with
 | none => rfl
 | some F => simp [Fl.abs]
theorem DA.now {w : World} {d : Nat} {K : Dk} {A : AL} (h : DA w d K A) (n : List UInt8) (i : Nat) : nowOf (getF K.files n) i = nowA (getA A n) i := by
 rw [now_abs, getA_abs, h.get]
theorem DA.below {w w' : World} {d : Nat} {K : Dk} {A : AL} (h : DA w d K A) (hb : Below w.heap.size w w') : DA w' d K A := ⟨h.at'.below hb, h.abs⟩
theorem Written.abs {w : World} {d : Nat} {K : Dk} {A : AL} (h : DA w d K A) {n : List UInt8} {i : Nat} {data : ByteArray} {K1 : Dk} (hw : Written K n i data K1) :
  (absL K1.files).Perm ((n, ((getA A n).getD ⟨[], [], false, []⟩).write (K.turn + 1) i data) :: restA A n) := by
 obtain ⟨m, sl, b, F, hF, rfl⟩ := hw
 have hok : FileOk F := by
  rcases hF with hF | ⟨_, b0, rfl⟩
  ·exact h.at'.files.ok _ (getF_mem hF)
  ·exact fresh_ok b0
 have he : (getA A n).getD ⟨[], [], false, []⟩ = F.abs := by
  rw [← h.get]
  rcases hF with hF | ⟨hF, b0, rfl⟩
  ·rw [hF]; rfl
  ·rw [hF]; rfl
 show (absP (n, F.write sl b (K.turn + 1) i data) :: absL (restF K.files n)).Perm _
 unfold absP
 rw [Fl.write_abs F hok, rest_abs, he]
 exact (restA_perm h.abs n).cons _
theorem Written.same {K K1 : Dk} {n : List UInt8} {i : Nat} {data : ByteArray} (hw : Written K n i data K1) : K1 = { K with m := K1.m, files := K1.files, turn := K.turn + 1 } := by
 obtain ⟨m, sl, b, F, hF, rfl⟩ := hw
 rfl
theorem Crashed.absA {w w' : World} {d : Nat} {K K' : Dk} {A : AL} {ks : List Int} {z : Int} (h : DA w d K A) (hc : Crashed w d K ks z K' w') : z = (lostA (keptA A ks) A : Nat) ∧ DA w' d K' (A.filterMap (crA (keptA A ks))) := by
 have e1 := hc.lost
 have e2 := hc.abs
 rw [keptA_abs, keptA_perm h.abs] at e1 e2
 rw [lostA_abs, lostA_perm h.abs] at e1
 rw [crash_list h.at'.files.ok] at e2
 exact ⟨e1, hc.at', e2.trans (h.abs.filterMap _)⟩
structure Lives (a w : World) (d : Nat) (K : Dk) (A : AL) : Prop where
 da : DA w d K A
 foot : ∀ k, K.foot d k → a.heap.size ≤ k
 fr : Below a.heap.size a w
theorem Lives.step {a w w' : World} {d : Nat} {K K' : Dk} {A A' : AL} (h : Lives a w d K A) (hs : Step w d K w' K') (hp : (absL K'.files).Perm A') : Lives a w' d K' A' := by
 refine ⟨⟨hs.at', hp⟩, fun k hk => ?_, Fr.new h.fr hs.fr h.foot⟩
 rcases hs.foot k hk with h1 | h1
 ·exact h.foot k h1
 ·exact Nat.le_trans h.fr.size h1
theorem Lives.below {a w w' : World} {d : Nat} {K : Dk} {A : AL} (h : Lives a w d K A) (hb : Below w.heap.size w w') : Lives a w' d K A := ⟨h.da.below hb, h.foot, h.fr.trans (hb.mono h.fr.size)⟩
structure Calm (K : Dk) (on : Bool) (t : Nat) : Prop where
 on : K.on = on
 room : K.room ≤ 0
 armed : K.armed = false
 left : K.left = 0
 turn : K.turn = t
def QD (on : Bool) (a w : World) (d t : Nat) (A : AL) : Prop := ∃ K, Lives a w d K A ∧ Calm K on t
theorem qd_new (w : World) : Calls Tryz.prog 7 #[.int .i64 0] w fun e w' => e = .returned (.pointer (some ⟨w.heap.size, 0, none⟩)) ∧ QD true w w' w.heap.size 0 [] := by
 refine (new_disk w 0).mono ?_
 rintro e w' ⟨rfl, hb, hn⟩
 refine ⟨rfl, Dk.new 0, ⟨⟨new_at_disk hn, .refl _⟩, fun k hk => ?_, hb⟩, rfl, by decide, rfl, rfl, rfl⟩
 rcases hk with rfl | hk | ⟨p, hp, _⟩ | hk
 ·exact Nat.le_refl _
 ·cases hk
 ·cases hp
 ·cases hk
theorem errn_good {n : Nat} (h1 : 1 ≤ n) (h2 : n ≤ 40) : errn true n = 0 := by
 unfold errn
 rw [if_neg (by decide), if_neg (by omega)]
theorem Calm.full {K : Dk} {on : Bool} {t : Nat} (h : Calm K on t) : fullOf K = false := by
 have := h.room
 unfold fullOf
 rw [decide_eq_false (by omega), Bool.false_and]
def writeA (A : AL) (n : List UInt8) (t i : Nat) (data : ByteArray) : AL := (n, ((getA A n).getD ⟨[], [], false, []⟩).write t i data) :: restA A n
def counted (K : Dk) : Dk := if K.armed = true then { K with left := K.left - 1 } else K
theorem DiskAt.count0 {w : World} {d : Nat} {K : Dk} (h : DiskAt w d K) (hon : K.on = true) (hl : K.left ≤ 9223372036854775807) (hk : K.armed = false ∨ 0 < K.left) :
  Calls Tryz.prog 97 #[.pointer (some ⟨d, 0, none⟩)] w fun e w' => e = .returned (.int .i64 0) ∧ Step w d K w' (counted K) := by
 refine (h.count hon hl).mono ?_
 rintro e w' ⟨n, K', rfl, hc⟩
 unfold counted
 cases hc with
 | free h1 hb _ => rw [h1, if_neg (by decide)]; exact ⟨rfl, .below h hb⟩
 | less h1 _ hs => rw [if_pos h1]; exact ⟨rfl, hs⟩
 | falls h1 h2 _ => rcases hk with hk | hk
                    ·rw [hk] at h1; cases h1
                    ·exact absurd hk h2
theorem DiskAt.count14 {w : World} {d : Nat} {K : Dk} (h : DiskAt w d K) (hon : K.on = true) (hl : K.left ≤ 9223372036854775807) (ha : K.armed = true) (hk : ¬ 0 < K.left) :
  Calls Tryz.prog 97 #[.pointer (some ⟨d, 0, none⟩)] w fun e w' => e = .returned (.int .i64 14) ∧ ∃ n K', Crashed w d K K.keep n K' w' := by
 refine (h.count hon hl).mono ?_
 rintro e w' ⟨n, K', rfl, hc⟩
 cases hc with
 | free h1 hb _ => rw [ha] at h1; cases h1
 | less _ h2 hs => exact absurd h2 hk
 | falls h1 h2 hcr => exact ⟨rfl, _, _, hcr⟩
theorem counted_files (K : Dk) : (counted K).files = K.files := by unfold counted; split <;> rfl
theorem DiskAt.synced {W w' : World} {d : Nat} {K : Dk} {n : List UInt8} {F : Fl} (h : DiskAt W d K) (hm : (n, F) ∈ K.files) (hF : FileAt w' F.sync) (hf : Fr F.foot W w') : Step W d K w' { K with files := (n, F.sync) :: restF K.files n } := by
 have hp := rest_perm h.files.names hm
 have hpa := allW_perm hp
 rw [allW_cons] at hpa
 have hl := hpa.length_eq
 rw [List.length_append] at hl
 have hmany := h.many.1
 have htn : ((allW (restF K.files n)).map (·.turn)).Nodup := by
  have := (hpa.map (·.turn)).nodup_iff.1 h.files.tnd
  rw [List.map_append] at this
  exact (List.nodup_append.1 this).2.1
 have hfoot : ∀ k, F.sync.foot k → F.foot k := by
  rintro k (hk | hk | ⟨x, hx, _⟩)
  ·exact .inl hk
  ·exact .inr (.inl hk)
  ·cases hx
 obtain ⟨h1, h2⟩ := h.file hm hF hf rfl (fun k hk => .inl (hfoot k hk)) (F.sync_ok (h.files.ok _ hm)) (fun x hx => by cases hx) (fun x hx => by cases hx) (by exact htn) (by show 0 + _ ≤ _; omega)
 exact ⟨h1, h2, hf.mono (fun k _ hk => .inr (.inr (.inl ⟨_, hm, hk⟩)))⟩
theorem sync_err {w : World} {d : Nat} (s : ByteArray) (v : Value) (z : Int) (hz : (z != 0) = true) (H : Hid (Calls Tryz.prog 98 #[.pointer (some ⟨d, 0, none⟩), .string s] w fun e w' => e = .returned (.tuple #[v, .int .i64 z]) ∧ Below w.heap.size w w')) :
  Calls Tryz.prog 50 #[.pointer (some ⟨d, 0, none⟩), .string s] w fun e w' => e = .returned (.int .i64 z) ∧ Below w.heap.size w w' := by
 go_enter Tryz.func50, Tryz.ntmps50
 go_wp2_with (go_at_call 98; (with_reducible refine H.out.mono ?_); rintro e w' ⟨rfl, hb⟩; have HB := Lib.hid hb; clear hb)
 go_ret
 exact ⟨rfl, HB.out⟩
def FallPost (w : World) (d : Nat) (K : Dk) (e : Ending) (w' : World) : Prop := ∃ w1 n K', e = .returned (.int .i64 14) ∧ Below w.heap.size w w1 ∧ Crashed w1 d K K.keep n K' w'
theorem sync_falls {w : World} {d b : Nat} {K : Dk} (s : ByteArray) (H : Hid (Calls Tryz.prog 98 #[.pointer (some ⟨d, 0, none⟩), .string s] w fun e w' => e = .returned (.tuple #[.pointer (some ⟨b, 0, none⟩), .int .i64 0]) ∧ Below w.heap.size w w'))
  (HC : Hid (∀ W, Below w.heap.size w W → Calls Tryz.prog 97 #[.pointer (some ⟨d, 0, none⟩)] W fun e w' => e = .returned (.int .i64 14) ∧ ∃ n K', Crashed W d K K.keep n K' w')) :
  Calls Tryz.prog 50 #[.pointer (some ⟨d, 0, none⟩), .string s] w (FallPost w d K) := by
 go_enter Tryz.func50, Tryz.ntmps50
 go_wp2_with (first
  | (go_at_call 98; (with_reducible refine H.out.mono ?_); rintro e w1 ⟨rfl, hb⟩; have HB := Lib.hid hb; clear hb)
  | (go_at_call 97; (with_reducible refine (HC.out _ HB.out).mono ?_); rintro e w2 ⟨rfl, n, K', hcr⟩; have HR := Lib.hid hcr; clear hcr))
 go_ret
 exact ⟨_, n, K', rfl, HB.out, HR.out⟩
theorem sync_done {w : World} {d b : Nat} (s : ByteArray) (P : World → Prop) (Q : World → Prop) (H : Hid (Calls Tryz.prog 98 #[.pointer (some ⟨d, 0, none⟩), .string s] w fun e w' => e = .returned (.tuple #[.pointer (some ⟨b, 0, none⟩), .int .i64 0]) ∧ Below w.heap.size w w'))
  (HC : Hid (∀ W, Below w.heap.size w W → Calls Tryz.prog 97 #[.pointer (some ⟨d, 0, none⟩)] W fun e w' => e = .returned (.int .i64 0) ∧ P w'))
  (HS : Hid (∀ W, P W → Calls Tryz.prog 99 #[.pointer (some ⟨b, 0, none⟩)] W fun e w' => e = .returned (.tuple #[]) ∧ Q w')) :
  Calls Tryz.prog 50 #[.pointer (some ⟨d, 0, none⟩), .string s] w fun e w' => e = .returned (.int .i64 0) ∧ Q w' := by
 go_enter Tryz.func50, Tryz.ntmps50
 go_wp2_with (first
  | (go_at_call 98; (with_reducible refine H.out.mono ?_); rintro e w1 ⟨rfl, hb⟩; have HB := Lib.hid hb; clear hb)
  | (go_at_call 97; (with_reducible refine (HC.out _ HB.out).mono ?_); rintro e w2 ⟨rfl, hp⟩; have HP := Lib.hid hp; clear hp)
  | (go_at_call 99; (with_reducible refine (HS.out _ HP.out).mono ?_); rintro e w3 ⟨rfl, hq⟩; have HQ := Lib.hid hq; clear hq))
 go_ret
 exact ⟨rfl, HQ.out⟩
inductive SyncPost (w : World) (d : Nat) (K : Dk) (s : ByteArray) : Ending → World → Prop where
 | err {w'} : errF K.on s.size (getF K.files s.data.toList) ≠ 0 → Below w.heap.size w w' → SyncPost w d K s (.returned (.int .i64 (errF K.on s.size (getF K.files s.data.toList)))) w'
 | falls {w1 w' n K'} : errF K.on s.size (getF K.files s.data.toList) = 0 → K.armed = true → ¬ 0 < K.left → Below w.heap.size w w1 → Crashed w1 d K K.keep n K' w' → SyncPost w d K s (.returned (.int .i64 14)) w'
 | done {w' F} : errF K.on s.size (getF K.files s.data.toList) = 0 → (K.armed = false ∨ 0 < K.left) → getF K.files s.data.toList = some F → Step w d K w' { counted K with files := (s.data.toList, F.sync) :: restF K.files s.data.toList } → SyncPost w d K s (.returned (.int .i64 0)) w'
theorem DiskAt.sync {w : World} {d : Nat} {K : Dk} (h : DiskAt w d K) (s : ByteArray) (hs : s.size ≤ maxLen) (hl : K.left ≤ 9223372036854775807) :
  Calls Tryz.prog 50 #[.pointer (some ⟨d, 0, none⟩), .string s] w (SyncPost w d K s) := by
 have HF := h.find s hs
 by_cases he : errF K.on s.size (getF K.files s.data.toList) ≠ 0
 ·obtain ⟨p, hp⟩ := ptr_shape (if errn K.on s.size = 0 then (getF K.files s.data.toList).map (·.b) else none)
  rw [hp] at HF
  refine (sync_err s _ _ (by simpa using he) HF).mono ?_
  rintro e w' ⟨rfl, hb⟩
  exact .err he hb
 ·have he : errF K.on s.size (getF K.files s.data.toList) = 0 := Decidable.not_not.1 he
  obtain ⟨h0, F, hF⟩ := errF_zero he
  have hon := errn_on h0
  have he2 := he
  rw [he2, if_pos h0, hF] at HF
  have hm := getF_mem hF
  by_cases hk : K.armed = false ∨ 0 < K.left
  ·refine (sync_done (b := F.b) s (fun W => Step w d K W (counted K)) (fun W => Step w d K W { counted K with files := (s.data.toList, F.sync) :: restF K.files s.data.toList }) HF
    (fun W hW => ((h.below hW).count0 hon hl hk).mono fun e w' hp => ⟨hp.1, (Step.below h hW).trans hp.2⟩) (fun W hW => ?_)).mono ?_
   ·have hm2 : (s.data.toList, F) ∈ (counted K).files := by rw [counted_files]; exact hm
    refine ((hW.at'.files.at' _ hm2).sync (hW.at'.files.ok _ hm2)).mono ?_
    rintro e w' ⟨rfl, h1, h2⟩
    have := hW.at'.synced hm2 h1 h2
    rw [counted_files] at this
    exact ⟨rfl, hW.trans this⟩
   ·rintro e w' ⟨rfl, hst⟩
    exact .done he hk hF hst
  ·have ha : K.armed = true := by cases hx : K.armed with
    | true => rfl
    | false => exact absurd (.inl hx) hk
   refine (sync_falls (b := F.b) s HF (fun W hW => (h.below hW).count14 hon hl ha (fun hx => hk (.inr hx)))).mono ?_
   rintro e w' ⟨w1, n, K', rfl, hb, hc⟩
   exact .falls he ha (fun hx => hk (.inr hx)) hb hc
end Go.Proofs.YtbkngnjkaledlaaGreat.P4
namespace Go.Proofs.YtbkngnjkaledlaaGreat.P4
open Go Go.RowKit Go.Lib Go.Maps Go.ChangeMaps Go.MapKept P3
section
variable {w w1 : World} {d : Nat} {K K1 : Dk}
def WK (d : Nat) (K : Dk) (s : ByteArray) (i : Int) (data : ByteArray) (z : Int) (K1 : Dk) (w1 : World) : Prop :=
 (P4.writeE K s i data.size ≠ 0 ∧ z = P4.writeE K s i data.size ∧ K1 = K) ∨
 (P4.writeE K s i data.size = 0 ∧ (K.armed = true ∧ ¬ 0 < K.left) ∧ z = 14 ∧ ∃ w0 K0 n, DiskAt w0 d K0 ∧ Written K s.data.toList i.toNat data K0 ∧ Crashed w0 d K0 K.keep n K1 w1) ∨
 (P4.writeE K s i data.size = 0 ∧ (K.armed = false ∨ 0 < K.left) ∧ z = 0 ∧ ∃ K0, Written K s.data.toList i.toNat data K0 ∧ K1 = counted K0)
theorem DiskAt.writeK (hK : DiskAt w d K) (hl : K.left ≤ 9223372036854775807) (ht : K.turn < 9000) (s : ByteArray) (i : Int) (data : ByteArray) (hs : s.size ≤ maxLen) :
  Calls Tryz.prog 41 #[.pointer (some ⟨d, 0, none⟩), .string s, .int .i64 i, .string data] w fun e w1 => ∃ z K1, e = .returned (.int .i64 z) ∧ Step w d K w1 K1 ∧ WK d K s i data z K1 w1 := by
 refine (hK.write s i data hs hl ht).mono fun e w1 hp => ?_
 rcases hp with ⟨h1, h2, h3⟩ | ⟨h1, w0, K0, hst, hwr, hcp⟩
 ·exact ⟨_, K, h2, Step.below hK h3, .inl ⟨h1, rfl, rfl⟩⟩
 ·have hsm := hwr.same
  have e1 : K0.armed = K.armed := by rw [hsm]
  have e2 : K0.left = K.left := by rw [hsm]
  have e3 : K0.keep = K.keep := by rw [hsm]
  obtain ⟨x, K', rfl, hc⟩ := hcp
  cases hc with
  | free q1 q2 q3 => exact ⟨0, K0, rfl, hst.trans (Step.below hst.at' q2), .inr (.inr ⟨h1, .inl (by rw [← e1]; exact q1), rfl, K0, hwr, by unfold counted; rw [if_neg (by rw [q1]; decide)]⟩)⟩
  | less q1 q2 q3 => exact ⟨0, _, rfl, hst.trans q3, .inr (.inr ⟨h1, .inr (by rw [← e2]; exact q2), rfl, K0, hwr, by unfold counted; rw [if_pos q1]⟩)⟩
  | @falls _ _ _ n _ q1 q2 q3 =>
   rw [e3] at q3
   exact ⟨14, K', rfl, hst.trans q3.step, .inr (.inl ⟨h1, ⟨by rw [← e1]; exact q1, by rw [← e2]; exact q2⟩, rfl, w0, K0, n, hst.at', hwr, q3⟩)⟩
end
end Go.Proofs.YtbkngnjkaledlaaGreat.P4
namespace Go.Proofs.YtbkngnjkaledlaaGreat.P8
open Go Go.RowKit Go.Lib Go.Maps Go.ChangeMaps Go.MapKept P3 P4
inductive WTr (d : Nat) (s : ByteArray) : Dk → List (Int × ByteArray) → Int → Dk → Prop
 | nil (K : Dk) : WTr d s K [] 0 K
 | ok {K K1 K2 : Dk} {i : Int} {data : ByteArray} {l : List (Int × ByteArray)} {z : Int} {w0 w1 : World} (hK : DiskAt w0 d K) (ht : K.turn < 8999) (hdm : data.size ≤ maxLen) (h : WK d K s i data 0 K1 w1) (rest : WTr d s K1 l z K2) : WTr d s K ((i, data) :: l) z K2
 | bad {K K1 : Dk} {i : Int} {data : ByteArray} {l : List (Int × ByteArray)} {z : Int} {w0 w1 : World} (hK : DiskAt w0 d K) (ht : K.turn < 8999) (hdm : data.size ≤ maxLen) (h : WK d K s i data z K1 w1) (hz : z ≠ 0) : WTr d s K ((i, data) :: l) z K1
theorem WTr.inv {d : Nat} {s : ByteArray} {K K2 : Dk} {i : Int} {data : ByteArray} {l : List (Int × ByteArray)} {z : Int} (h : WTr d s K ((i, data) :: l) z K2) :
  ∃ z1 K1 w0 w1, DiskAt w0 d K ∧ K.turn < 8999 ∧ data.size ≤ maxLen ∧ WK d K s i data z1 K1 w1 ∧ ((z1 = 0 ∧ WTr d s K1 l z K2) ∨ (z1 ≠ 0 ∧ z = z1 ∧ K2 = K1)) := by
 cases h with
 | ok hK ht hdm h rest => exact ⟨0, _, _, _, hK, ht, hdm, h, .inl ⟨rfl, rest⟩⟩
 | bad hK ht hdm h hz => exact ⟨_, _, _, _, hK, ht, hdm, h, .inr ⟨hz, rfl, rfl⟩⟩
theorem WTr.nil_inv {d : Nat} {s : ByteArray} {K K2 : Dk} {z : Int} (h : WTr d s K [] z K2) : z = 0 ∧ K2 = K := by cases h; exact ⟨rfl, rfl⟩
theorem WTr.app {d : Nat} {s : ByteArray} {z1 : Int} {K K1 : Dk} : ∀ {l1 : List (Int × ByteArray)}, WTr d s K l1 z1 K1 → ∀ {l2 : List (Int × ByteArray)} {z : Int} {K2 : Dk}, ((z1 = 0 ∧ WTr d s K1 l2 z K2) ∨ (z1 ≠ 0 ∧ z = z1 ∧ K2 = K1)) → WTr d s K (l1 ++ l2) z K2 := by
 intro l1 h
 induction h with
 | nil K =>
  intro l2 z K2 k
  rcases k with ⟨_, k⟩ | ⟨k, _⟩
  ·exact k
  ·exact absurd rfl k
 | ok hK ht hdm h rest ih =>
  intro l2 z K2 k
  exact .ok hK ht hdm h (ih k)
 | bad hK ht hdm h hz =>
  intro l2 z K2 k
  rcases k with ⟨k, _⟩ | ⟨_, rfl, rfl⟩
  ·exact absurd k hz
  ·exact .bad hK ht hdm h hz
def zerosW (zs : ByteArray) (n m : Nat) : List (Int × ByteArray) := (List.range (m - n)).map fun k => (((n + k : Nat) : Int), zs)
theorem zerosW_done {zs : ByteArray} {n m : Nat} (h : m ≤ n) : zerosW zs n m = [] := by unfold zerosW; rw [Nat.sub_eq_zero_of_le h]; rfl
theorem zerosW_next {zs : ByteArray} {n m : Nat} (h : n < m) : zerosW zs n m = ((n : Int), zs) :: zerosW zs (n + 1) m := by
 unfold zerosW
 obtain ⟨q, hq⟩ : ∃ q, m - n = q + 1 := ⟨m - n - 1, by omega⟩
 rw [hq, List.range_succ_eq_map, List.map_cons, show m - (n + 1) = q by omega, List.map_map]
 have e : ∀ k ∈ List.range q, ((fun k => (((n + k : Nat) : Int), zs)) ∘ Nat.succ) k = (((n + 1 + k : Nat) : Int), zs) := fun k _ => by
  show (((n + (k + 1) : Nat) : Int), zs) = _
  rw [show n + (k + 1) = n + 1 + k by omega]
 rw [List.map_congr_left e]
 rfl
def SzK (K : Dk) (s : ByteArray) (m : Nat) : Prop := K.on = true ∧ errn K.on s.size = 0 ∧ sizeN K.files s.data.toList = m
theorem counted_files (K : Dk) : (counted K).files = K.files := by unfold counted; split <;> rfl
theorem counted_on (K : Dk) : (counted K).on = K.on := by unfold counted; split <;> rfl
theorem sizeN_cons (n : List UInt8) (F : Fl) (L : Files) : sizeN ((n, F) :: L) n = F.secs.length := by simp [sizeN, getF]
theorem write_secs (F : Fl) (sl : Value) (b t i : Nat) (x : ByteArray) (h : i ≤ F.secs.length) : (F.write sl b t i x).secs.length = max F.secs.length (i + 1) := by
 have hlen : (F.write sl b t i x).secs.length = if i = F.secs.length then F.secs.length + 1 else F.secs.length := by
  unfold Fl.write
  split <;> simp
 rw [hlen]
 split <;> omega
theorem writeE_in {K : Dk} {s : ByteArray} {i : Int} {n : Nat} (h : P4.writeE K s i n = 0) : 0 ≤ i ∧ i ≤ (sizeN K.files s.data.toList : Int) := by
 unfold P4.writeE at h
 split at h
 ·exact absurd h (by assumption)
 ·split at h
  ·exact absurd h (by decide)
  ·split at h
   ·exact absurd h (by decide)
   ·omega
theorem SzK.write {d : Nat} {K K1 : Dk} {s data : ByteArray} {i : Int} {m : Nat} {w1 : World} (h : SzK K s m) (hw : WK d K s i data 0 K1 w1) : SzK K1 s (max m (i.toNat + 1)) ∧ 0 ≤ i ∧ i.toNat ≤ m := by
 obtain ⟨h1, h2, h3⟩ := h
 unfold WK at hw
 rcases hw with ⟨q1, q2, _⟩ | ⟨_, _, q, _⟩ | ⟨q1, _, _, K0, ⟨mm, sl, b, F, hF, rfl⟩, rfl⟩
 ·exact absurd q2.symm q1
 ·exact absurd q (by decide)
 ·have hi := writeE_in q1
  have hl : F.secs.length = m := by
   rcases hF with e | ⟨e, b0, rfl⟩
   ·rw [← h3]; unfold sizeN; rw [e]
   ·rw [← h3]; unfold sizeN; rw [e]; rfl
  refine ⟨⟨by rw [counted_on]; exact h1, by rw [counted_on]; exact h2, ?_⟩, hi.1, by omega⟩
  rw [counted_files]
  show sizeN ((s.data.toList, F.write sl b (K.turn + 1) i.toNat data) :: restF K.files s.data.toList) s.data.toList = _
  rw [sizeN_cons, write_secs _ _ _ _ _ _ (by omega), hl]
def endW : Nat → List (Int × ByteArray) → Nat
 | m, [] => m
 | m, (i, _) :: l => endW (max m (i.toNat + 1)) l
theorem endW_zeros (zs : ByteArray) (n : Nat) : ∀ (q m : Nat), n - m = q → endW m (zerosW zs m n) = max m n := by
 intro q
 induction q with
 | zero => intro m h; rw [zerosW_done (by omega)]; show m = _; omega
 | succ q ih =>
  intro m h
  rw [zerosW_next (by omega)]
  show endW (max m ((m : Int).toNat + 1)) _ = _
  rw [show max m ((m : Int).toNat + 1) = m + 1 by omega, ih (m + 1) (by omega)]
  omega
end Go.Proofs.YtbkngnjkaledlaaGreat.P8
