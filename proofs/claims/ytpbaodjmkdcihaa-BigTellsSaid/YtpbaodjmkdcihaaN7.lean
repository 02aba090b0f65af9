/-
  The pages' ids of a value: package big's Ids; a list of ints in memory.
-/
import Derived.Test.YtpbaodjmkdcihaaN5
import Derived.Test.YtpbaodjmkdcihaaN7a
import Derived.Deep.DeepAppendRoom
namespace Go.Proofs.Ytpbaodjmkdcihaa.P11
open Go Go.RowKit Go.Lib Go.Proofs.Ytpbaodjmkdcihaa.PK

/-- n ids from a on -/
def upB (a : Int) (n : Nat) : List Int := (List.range n).map fun k => a + (k : Nat)
theorem upB_length (a : Int) (n : Nat) : (upB a n).length = n := by simp [upB]
theorem upB_snoc (a : Int) (n : Nat) : upB a (n + 1) = upB a n ++ [a + (n : Nat)] := by simp [upB, List.range_succ]
theorem upB_at {a : Int} {n k : Nat} (h : k < n) : (upB a n)[k]? = some (a + (k : Nat)) := by simp [upB, h]
/-- the ids of a value -/
def idsB (s : ByteArray) : List Int := if (unrefB s).2.2 = 0 then upB (unrefB s).1 (needN (unrefB s).2.1.toNat) else []
theorem unrefB_cases (s : ByteArray) : (∃ a n : Nat, unrefB s = ((a : Int), (n : Int), 0) ∧ 2 ≤ a ∧ a < 4000 ∧ n ≤ 2000 ∧ idsB s = upB a (needN n)) ∨ (unrefB s = (0, 0, 6) ∧ idsB s = []) := by
  by_cases h : s.size = 4 ∧ refOk (numA s) (numZ s)
  · left
    have e : unrefB s = ((numA s : Int), (numZ s : Int), 0) := by unfold unrefB; rw [if_pos h]
    obtain ⟨-, h1, h2, h3, h4⟩ := h
    refine ⟨numA s, numZ s, e, by omega, by omega, by omega, ?_⟩
    unfold idsB
    rw [e]
    simp
  · right
    have e : unrefB s = (0, 0, 6) := by unfold unrefB; rw [if_neg h]
    refine ⟨e, ?_⟩
    unfold idsB
    rw [e]
    simp

/-- the row of ids while it is filled -/
def rowU (a N k : Nat) : Array Value := ((List.range N).map fun i => Value.int .i64 (if i < k then (a : Int) + (i : Nat) else 0)).toArray
theorem rowU_zero (a N : Nat) : madeCells #[.int .i64 0] N = rowU a N 0 := by
  apply Array.ext'
  unfold rowU
  apply List.ext_getElem?
  intro i
  by_cases h : i < N
  · simp [madeCells, h, Nat.mod_one]
  · simp [madeCells, h]
theorem rowU_step (a N k : Nat) : (rowU a N k).setIfInBounds k (.int .i64 ((a : Int) + (k : Nat))) = rowU a N (k + 1) := by
  apply Array.ext'
  unfold rowU
  apply List.ext_getElem?
  intro i
  by_cases h : i < N
  · by_cases hik : k = i
    · subst hik
      simp [h]
    · have e : (i < k + 1) = (i < k) := by apply propext; omega
      simp [h, List.getElem?_set, hik, e]
  · simp [h, List.getElem?_set]
theorem rowU_size (a N k : Nat) : (rowU a N k).size = N := by simp [rowU]
theorem rowU_full (a N : Nat) : (rowU a N N).toList.take N = (cellsN (upB a N)).flatten := by
  rw [List.take_of_length_le (by simp [rowU])]
  unfold rowU cellsN upB
  rw [List.toList_toArray, List.map_map]
  induction N with
  | zero => rfl
  | succ n ih =>
    rw [List.range_succ, List.map_append, List.map_append, List.flatten_append, ← ih]
    simp only [List.map_cons, List.map_nil, List.flatten_cons, List.flatten_nil, List.append_nil, Function.comp]
    congr 1
    · apply List.map_congr_left
      intro i hi
      have : i < n := List.mem_range.1 hi
      rw [if_pos this, if_pos (by omega)]
    · rw [if_pos (by omega)]
theorem made_ints (w : World) (n : Nat) (hn : n ≤ 1000) (a : Nat) : (Instr.makeSlice 35 (.int .i64 (n : Nat)) (.int .i64 (n : Nat))).run Try.prog w = .ok (.slice (some ⟨w.heap.size, 0, none⟩) n n) (w.alloc (.cells (rowU a n 0) 3)) := by
  rw [← rowU_zero]
  exact run_make_row' (P := Try.prog) 35 3 (.int .i64 0) 8 Try.underlying35 infoENs rfl .i64 .i64 n (by omega) (by omega) w

set_option maxRecDepth 100000 in
set_option maxHeartbeats 4000000 in
theorem ids_any (w : World) (s : ByteArray) :
    Calls Try.prog 15 #[.string s] w fun e w' => ∃ v, e = .returned (.tuple #[v, .int .i64 (unrefB s).2.2]) ∧ OwnN w.heap.size w' v (idsB s) ∧ Below w.heap.size w w' := by
  have HU := Lib.hid (fun W => unref_any W s)
  rcases unrefB_cases s with ⟨a, n, e, h2, h4, hn, hi⟩ | ⟨e, hi⟩
  · rw [e] at HU ⊢
    rw [hi]
    simp only at HU ⊢
    have hNs : needN n ≤ 10 := by unfold needN; omega
    have HNd : Hid (∀ W, Calls Try.prog 12 #[.int .i64 n] W fun e w' => e = .returned (.int .i64 (needN n : Nat)) ∧ Below W.heap.size W w') := fun W => by
      have := need_any W n (by omega)
      rwa [needB_nat] at this
    generalize needN n = N at *
    have hmk : ∀ W : World, (Instr.makeSlice 35 (.int .i64 (N : Nat)) (.int .i64 (N : Nat))).run Try.prog W = .ok (.slice (some ⟨W.heap.size, 0, none⟩) N N) (W.alloc (.cells (rowU a N 0) 3)) := fun W => made_ints W N (by omega) a
    clear e hi
    go_enter Try.func15, Try.ntmps15
    go_wp2_with (first
      | (go_at_call 10; (with_reducible refine (HU.out _).mono ?_); rintro e w0 ⟨rfl, hb⟩; have B0 := Lib.hid hb; clear hb)
      | (go_at_call 12; (with_reducible refine (HNd.out _).mono ?_); rintro e w1 ⟨rfl, hb⟩; have B1 := Lib.hid (thenBelow B0.out hb); clear hb))
    have HW : Hid ((w1.alloc (.cells (rowU a N 0) 3)).heap[w1.heap.size]? = some (.cells (rowU a N 0) 3 (0, 0))) := new_at w1 _ _
    have HG : Hid (Below w.heap.size w (w1.alloc (.cells (rowU a N 0) 3))) := grow B1.out _
    obtain ⟨X, hX⟩ : ∃ X, X = w1.heap.size := ⟨_, rfl⟩
    have HX : Hid (w.heap.size ≤ X) := by have := B1.out.size; show _ ≤ _; omega
    rw [← hX] at HW ⊢
    clear hX hmk
    go_loopw [23] (fun vi wr => ∃ k : Nat, k ≤ N ∧ vi = .int .i64 k ∧ Hid (wr.heap[X]? = some (.cells (rowU a N k) 3 (0, 0))) ∧ Hid (Below w.heap.size w wr)) (fun vi _ => N - (RowKit.intOf vi).toNat)
    case atStart => exact ⟨0, Nat.zero_le _, rfl, HW.out, HG.out⟩
    case round =>
      obtain ⟨k, hk, rfl, hrow, hbel⟩ := hrel
      by_cases hlt : k < N
      · have k2 : (k : Int) < (N : Int) := by omega
        have hcell : wr.cell? ⟨X, k, none⟩ = some (.int .i64 0) := by
          rw [cell_at hrow.out]; simp [rowU, hlt]
        have hfree := free_at hrow.out k
        have HN : Hid ((wr.setCell ⟨X, k, none⟩ (.int .i64 ((a : Int) + (k : Nat)))).heap[X]? = some (.cells (rowU a N (k + 1)) 3 (0, 0))) := by
          have e := set_at hrow.out k (.int .i64 ((a : Int) + (k : Nat)))
          rw [rowU_step] at e
          exact e
        have HB : Hid (Below w.heap.size w (wr.setCell ⟨X, k, none⟩ (.int .i64 ((a : Int) + (k : Nat))))) := hbel.out.setCell HX.out _
        go_wp2
        go_roundw
        case rel => exact ⟨k + 1, by omega, by go_num, HN, HB⟩
        case measure => simp [RowKit.intOf]; omega
      · have e9 : k = N := by omega
        subst e9
        have k2 : decide ((k : Int) < (k : Int)) = false := decide_eq_false (by omega)
        go_wp2
        go_ret2
        refine ⟨_, rfl, ⟨⟨?_, .inr ⟨X, k, rowU a k k, ?_, HX.out, hrow.out, by rw [upB_length]; omega, ?_, ?_, ?_⟩⟩, ?_⟩, hbel.out⟩
        · rw [← rowU_full, upB_length]; simp [rowU]
        · show Value.slice (some ⟨X, 0, none⟩) k k = _
          rw [upB_length]
        · unfold maxLen; omega
        · rw [rowU_size]; omega
        · rw [upB_length, Nat.mul_one]; exact rowU_full a k
        · rw [upB_length]; omega
  · rw [e] at HU ⊢
    rw [hi]
    simp only at HU ⊢
    clear e hi
    go_enter Try.func15, Try.ntmps15
    go_wp2_with (first
      | (go_at_call 10; (with_reducible refine (HU.out _).mono ?_); rintro e w0 ⟨rfl, hb⟩; have B0 := Lib.hid hb; clear hb))
    go_ret2
    exact ⟨_, rfl, OwnN.nil _ _, B0.out⟩

end Go.Proofs.Ytpbaodjmkdcihaa.P11
