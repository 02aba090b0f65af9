/-
  Package disk: a file is made; a call is counted. (Disk, part 22.)
-/
import Derived.Test.YtlgloikhdbmgdaaDk21
namespace Go.Proofs.Ytlgloikhdbmgdaa.P4
open Go Go.RowKit Go.Lib Go.Maps Go.ChangeMaps Go.MapKept Go.Proofs.Ytlgloikhdbmgdaa.P3

/-- a new file -/
def Fl.fresh (b : Nat) : Fl := ⟨b, .slice none 0 0, [], 0, false, []⟩
theorem fresh_ok (b : Nat) : FileOk (Fl.fresh b) := by
  refine ⟨fun i s h => ?_, fun l x r e => ?_, fun x hx => ?_, fun x hx => ?_, fun s hs => ?_, fun i s h => ?_, fun i s h _ => ?_, Nat.le_refl _, fun _ => rfl, Nat.zero_le _, List.Pairwise.nil, Nat.zero_le _⟩
  · simp [Fl.fresh] at h
  · have := congrArg List.length e
    simp [Fl.fresh] at this
  · simp [Fl.fresh] at hx
  · simp [Fl.fresh] at hx
  · simp [Fl.fresh] at hs
  · simp [Fl.fresh] at h
  · simp [Fl.fresh] at h
theorem fresh_abs (b : Nat) : (Fl.fresh b).abs = ⟨[], [], false, []⟩ := rfl
def freshCells : Array Value := #[.slice none 0 0, .int .i64 0, .bool false, .pointer none, .pointer none, .int .i64 0]
theorem fresh_at {w : World} {b : Nat} (h : w.heap[b]? = some (.cells freshCells 78 (0, 0))) : FileAt w (Fl.fresh b) := ⟨h, World.ownsRow_nil _ _ _ _, trivial, List.nodup_nil⟩

/-- what create leaves -/
def MadePost (w : World) (d : Nat) (L : Dir) (n : List UInt8) (m : Option Nat) (e : Ending) (w' : World) : Prop :=
  ∃ b b2, e = .returned (.pointer (some ⟨b, 0, none⟩)) ∧ w.heap.size ≤ b ∧ w'.heap[b]? = some (.cells freshCells 78 (0, 0)) ∧ MapAt w' (some b2) (putL L n b) ∧ (m = some b2 ∨ m = none ∧ w.heap.size ≤ b2) ∧ w'.cell? ⟨d, 0, none⟩ = some (.map (some b2)) ∧ Fr (fun k => k = d ∨ m = some k) w w' ∧ (∀ c, w.heap[d]? = some (.cells c 58 (0, 0)) → w'.heap[d]? = some (.cells (c.setIfInBounds 0 (.map (some b2))) 58 (0, 0)))

theorem turned_only {w w' : World} {b : Nat} (h : w.mapTurned w' b) : Only b w w' := by
  have hg := h.grown
  exact ⟨hg.os, hg.tape, hg.output, hg.size, fun k hk hne => hg.block k hk (fun e => hne (by simpa using e))⟩

set_option maxRecDepth 100000 in
set_option maxHeartbeats 1000000 in
theorem create_some (w : World) (d b : Nat) (s : ByteArray) (L : Dir) {c : Array Value} (hblk : w.heap[d]? = some (.cells c 58 (0, 0))) (hc : c[0]? = some (.map (some b))) (hm : MapAt w (some b) L) (hn : (L.map (·.1)).Nodup) (hl : L.length ≤ 1000) (hs : s.size ≤ 1000) :
    Calls Try.prog 34 #[.pointer (some ⟨d, 0, none⟩), .string s] w (MadePost w d L s.data.toList (some b)) := by
  have c0 : w.cell? ⟨d, 0, none⟩ = some (.map (some b)) := (cell_at hblk 0).trans hc
  have heq : ∀ w : World, (binOp .eql 56 (.map (some b)) (.map none)).run Try.prog w = .ok (.bool false) w := fun w => run_eql_map_nil w _ _ _ (some b) Try.underlying56
  have hbd : d ≠ b := by
    rintro rfl
    rcases hm with ⟨h, _⟩ | ⟨b', D, e, ⟨es, clock, h1, _⟩, _⟩
    · cases h
    · obtain rfl : d = b' := by simpa using e
      rw [hblk] at h1; cases h1
  have hbl : b < w.heap.size := by
    rcases hm with ⟨h, _⟩ | ⟨b', D, e, ho, _⟩
    · cases h
    · obtain rfl : b = b' := by simpa using e
      exact ho.lt
  have HP : Hid (∀ w2, Below w.heap.size w w2 → w2.heap[w.heap.size]? = some (.cells freshCells 78 (0, 0)) → ∃ w3, (Instr.mapUpdate 56 (.map (some b)) (.string s) (.pointer (some ⟨w.heap.size, 0, none⟩))).run Try.prog w2 = .ok () w3 ∧ MadePost w d L s.data.toList (some b) (.returned (.pointer (some ⟨w.heap.size, 0, none⟩))) w3) := by
    intro w2 hb hf
    obtain ⟨w3, hrun, hm3, ht⟩ := (hm.fr (S := fun _ => False) (.of hb) (fun _ _ => id)).put hn hl (s := s) (by unfold maxLen; omega) w.heap.size
    have ho := turned_only ht
    have hd3 : w3.heap[d]? = some (.cells c 58 (0, 0)) := ho.keep (old_below hblk hb) hbd
    refine ⟨w3, hrun, w.heap.size, b, rfl, Nat.le_refl _, ho.keep hf (by omega), hm3, .inl rfl, (cell_at hd3 0).trans hc, (Fr.of hb).trans (.only ho (.inr rfl)), fun c' hc' => ?_⟩
    rw [hblk] at hc'
    obtain rfl : c = c' := by simpa using hc'
    rw [hd3]
    congr
    apply Array.ext_getElem?
    intro i
    rw [Array.getElem?_setIfInBounds]
    by_cases hi : 0 = i
    · subst hi; rw [if_pos rfl, if_pos (Array.getElem?_eq_some_iff.1 hc).1, hc]
    · rw [if_neg hi]
  have HC : Hid (∀ W, Calls Try.prog 36 #[.string s] W fun e w' => e = .returned (.string s) ∧ Below W.heap.size W w') := fun W => clone_any s W (by omega)
  have HD : Hid (∀ w2, Below w.heap.size w w2 → w2.cell? ⟨d, 0, none⟩ = some (.map (some b))) := fun w2 hb => (cell_at (old_below hblk hb) 0).trans hc
  have hdl := lt_of_block hblk
  clear hblk hc hm hn hl hs
  go_enter Try.func34, Try.ntmps34
  go_wp2
  go_region_with ((go_at_call 36; (with_reducible refine (HC.out _).mono ?_); rintro e w2 ⟨rfl, hb⟩; have hb2 : Below w.heap.size w w2 := Below.trans (by first | exact ((Below.refl _ _).alloc (Nat.le_refl _) _).drew | exact (Below.refl _ _).alloc (Nat.le_refl _) _) (hb.mono (by simp)); have c2 := HD.out w2 hb2; obtain ⟨w3, hrun, hpost⟩ := HP.out w2 hb2 ((hb.block w.heap.size (by simp)).trans (heap_alloc_new w (.cells freshCells 78))); have HPo := Lib.hid hpost; clear hpost))
  all_goals
    go_wp2
    go_ret
    exact HPo.out

set_option maxRecDepth 100000 in
set_option maxHeartbeats 1000000 in
theorem create_none (w : World) (d : Nat) (s : ByteArray) {c : Array Value} (hblk : w.heap[d]? = some (.cells c 58 (0, 0))) (hc : c[0]? = some (.map none)) (hs : s.size ≤ 1000) :
    Calls Try.prog 34 #[.pointer (some ⟨d, 0, none⟩), .string s] w (MadePost w d [] s.data.toList none) := by
  have c0 : w.cell? ⟨d, 0, none⟩ = some (.map none) := (cell_at hblk 0).trans hc
  have f0 := free_at hblk 0
  have heq : ∀ w : World, (binOp .eql 56 (.map none) (.map none)).run Try.prog w = .ok (.bool true) w := fun w => run_eql_map_nil w _ _ _ none Try.underlying56
  have hmm := @run_makeMap Try.prog
  obtain ⟨W1, hW1⟩ : ∃ W1, W1 = (w.setCell ⟨d, 0, none⟩ (.map (some w.heap.size))).alloc (.map #[] 0) := ⟨_, rfl⟩
  have hsz0 : (w.setCell ⟨d, 0, none⟩ (.map (some w.heap.size))).heap.size = w.heap.size := by simp [World.setCell]
  have hsz : W1.heap.size = w.heap.size + 1 := by rw [hW1]; simp [hsz0]
  have hm1 : MapAt W1 (some w.heap.size) [] := by
    have := MapAt.made (w.setCell ⟨d, 0, none⟩ (.map (some w.heap.size)))
    rw [hsz0] at this
    rw [hW1]; exact this
  have hd1 : W1.heap[d]? = some (.cells (c.setIfInBounds 0 (.map (some w.heap.size))) 58 (0, 0)) := by rw [hW1]; exact old_alloc (set_at hblk 0 _) _
  have hf1 : Fr (fun k => k = d ∨ none = some k) w W1 := by rw [hW1]; exact (Fr.only ((Only.refl d w).setCell 0 _) (.inl rfl)).trans (.of (below_new _ _))
  have hdl := lt_of_block hblk
  have hcs : 0 < c.size := (Array.getElem?_eq_some_iff.1 hc).1
  have HP : Hid (∀ w2, Below W1.heap.size W1 w2 → w2.heap[w.heap.size + 1]? = some (.cells freshCells 78 (0, 0)) → ∃ w3, (Instr.mapUpdate 56 (.map (some w.heap.size)) (.string s) (.pointer (some ⟨w.heap.size + 1, 0, none⟩))).run Try.prog w2 = .ok () w3 ∧ MadePost w d [] s.data.toList none (.returned (.pointer (some ⟨w.heap.size + 1, 0, none⟩))) w3) := by
    intro w2 hb hf
    obtain ⟨w3, hrun, hm3, ht⟩ := (hm1.fr (S := fun _ => False) (.of hb) (fun _ _ => id)).put (by simp) (by simp) (s := s) (by unfold maxLen; omega) (w.heap.size + 1)
    have ho := turned_only ht
    have hd3 : w3.heap[d]? = some (.cells (c.setIfInBounds 0 (.map (some w.heap.size))) 58 (0, 0)) := ho.keep (old_below hd1 hb) (by omega)
    refine ⟨w3, hrun, w.heap.size + 1, w.heap.size, rfl, by omega, ho.keep hf (by omega), hm3, .inr ⟨rfl, Nat.le_refl _⟩, ?_, ?_, fun c' hc' => ?_⟩
    · rw [cell_at hd3, Array.getElem?_setIfInBounds, if_pos rfl, if_pos hcs]
    · refine (((hf1.trans (.of hb)).mono (T := fun k => (k = d ∨ none = some k) ∨ k = w.heap.size) (fun k _ h => .inl h)).trans (.only ho (.inr rfl))).mono (fun k hk h => h.elim id (fun e => by omega))
    · rw [hblk] at hc'
      obtain rfl : c = c' := by simpa using hc'
      exact hd3
  have HC : Hid (∀ W, Calls Try.prog 36 #[.string s] W fun e w' => e = .returned (.string s) ∧ Below W.heap.size W w') := fun W => clone_any s W (by omega)
  have HD : Hid (∀ w2, Below W1.heap.size W1 w2 → w2.cell? ⟨d, 0, none⟩ = some (.map (some w.heap.size))) := fun w2 hb => by
    rw [cell_at (old_below hd1 hb), Array.getElem?_setIfInBounds, if_pos rfl, if_pos hcs]
  have c1 : W1.cell? ⟨d, 0, none⟩ = some (.map (some w.heap.size)) := HD.out W1 (Below.refl _ _)
  have hdl1 : d < W1.heap.size := by omega
  have HW := Lib.hid hW1
  have HSz := Lib.hid hsz
  clear hblk hc hs hm1 hd1 hf1 hW1 hsz0 hsz
  go_enter Try.func34, Try.ntmps34
  go_wp2
  rw [← HW.out]
  clear c0 f0 hmm
  go_region_with ((go_at_call 36; (with_reducible refine (HC.out _).mono ?_); rintro e w2 ⟨rfl, hb⟩; have hb2 : Below W1.heap.size W1 w2 := Below.trans (by first | exact ((Below.refl _ _).alloc (Nat.le_refl _) _).drew | exact (Below.refl _ _).alloc (Nat.le_refl _) _) (hb.mono (by simp)); have c2 := HD.out w2 hb2; obtain ⟨w3, hrun, hpost⟩ := HP.out w2 hb2 ((hb.block (w.heap.size + 1) (by simp [HSz.out])).trans (by have := heap_alloc_new W1 (.cells freshCells 78); rw [HSz.out] at this; exact this)); have HPo := Lib.hid hpost; clear hpost))
  all_goals
    go_wp2
    go_ret
    exact HPo.out

end Go.Proofs.Ytlgloikhdbmgdaa.P4
