/-
  The calls that the statement DiskLasts makes, each on the disk as it then is; a byte as a text; the reference's Zeros.
-/
import Derived.Test.YtlgloikhdbmgdaaArgs4
import Derived.Test.YtlgloikhdbmgdaaAlive4
import Derived.Deep.LoopGhost
import Derived.Deep.RegionHeld3
namespace Go.Proofs.Ytlgloikhdbmgdaa.P4
set_option maxRecDepth 20000
open Go Go.RowKit Go.Lib Go.Maps Go.ChangeMaps Go.MapKept Go.Proofs.Ytlgloikhdbmgdaa.P3

theorem one_string (w : World) (x : Int) : (convert 29 9 (.slice (some ⟨w.heap.size, 0, none⟩) 1 1)).run Try.prog (w.alloc (.cells #[.int .u8 (x % 256)] 5)) = .ok (.string (byteS x)) (w.alloc (.cells #[.int .u8 (x % 256)] 5)) := by
  refine run_convert_bytes_back _ 29 9 5 ⟨w.heap.size, 0, none⟩ 1 [UInt8.ofNat (x % 256).toNat] Try.underlying29 Try.underlying5 Try.underlying9 (fun j hj => ?_)
  obtain rfl : j = 0 := by simpa using hj
  rw [Go.WideShapes.add_plain, Nat.zero_add, cell_at (new_at w _ _)]
  have e : (((UInt8.ofNat (x % 256).toNat).toNat : Nat) : Int) = x % 256 := by rw [UInt8.toNat_ofNat']; omega
  simp
  omega
theorem byteS_size (x : Int) : (byteS x).size = 1 := rfl
theorem fill_byte (w : World) (x : Int) : Calls Try.prog 11 #[.string (byteS x), .bool true] w fun e w' => e = .returned (.string (qx x)) ∧ Below w.heap.size w w' := fill_own w (byteS x) (by rw [byteS_size]; decide)

/-- zero bytes -/
def zerB (n : Nat) : ByteArray := ⟨(List.replicate n (0 : UInt8)).toArray⟩
theorem zerosN_cell (n j : Nat) (h : j < n) : (madeCells #[Value.int .u8 0] n)[j]? = some (.int .u8 0) := by
  simp [madeCells, h, Nat.mod_one]
theorem zerosN_string (w : World) (n : Nat) : (convert 29 9 (.slice (some ⟨w.heap.size, 0, none⟩) n n)).run Try.prog (w.alloc (.cells (madeCells #[.int .u8 0] n) 5)) = .ok (.string (zerB n)) (w.alloc (.cells (madeCells #[.int .u8 0] n) 5)) := by
  have h := run_convert_bytes_back (w.alloc (.cells (madeCells #[.int .u8 0] n) 5)) 29 9 5 ⟨w.heap.size, 0, none⟩ n (List.replicate n (0 : UInt8)) Try.underlying29 Try.underlying5 Try.underlying9 (fun j hj => by
    rw [Go.WideShapes.add_plain, Nat.zero_add, cell_at (new_at w _ _), zerosN_cell n j (by simpa using hj)]
    simp)
  rw [List.length_replicate] at h
  exact h
theorem made_rowN (w : World) (n : Nat) (hn : n ≤ 100000) : (Instr.makeSlice 29 (.int .i64 n) (.int .i64 n)).run Try.prog w = .ok (.slice (some ⟨w.heap.size, 0, none⟩) n n) (w.alloc (.cells (madeCells #[.int .u8 0] n) 5)) :=
  run_make_row' (P := Try.prog) 29 5 (.int .u8 0) 1 Try.underlying29 infoByte4 rfl .i64 .i64 n (by omega) (by omega) w
theorem rZeros4 (w : World) (n : Nat) (hn : n ≤ 100000) :
    Calls Try.prog 17 #[.int .i64 n] w fun r w' => r = .returned (.string (zerB n)) ∧ Below w.heap.size w w' := by
  have h1 := made_rowN w n hn
  have h2 := zerosN_string w n
  have hB := Lib.hid (below_new w (.cells (madeCells #[.int .u8 0] n) 5))
  generalize w.alloc (.cells (madeCells #[.int .u8 0] n) 5) = w2 at h1 h2 hB
  go_enter Try.func17, Try.ntmps17
  go_wp2
  go_ret
  exact ⟨rfl, hB.out⟩

/-- the sectors of bytes -/
def qsL (bs : List Int) : List ByteArray := bs.map qx
theorem qs_at (bs : List Int) {i : Nat} (h : i < bs.length) : (qsL bs).getD i ⟨#[]⟩ = qx (bs.getD i 0) := by
  unfold qsL
  rw [List.getD_eq_getElem?_getD, List.getElem?_map, List.getD_eq_getElem?_getD, List.getElem?_eq_getElem h]
  rfl
theorem qs_len (bs : List Int) : (qsL bs).length = bs.length := by unfold qsL; rw [List.length_map]

theorem l_write {a w : World} {d lo j : Nat} {bs : List Int} {s : ByteArray} (hs : s.size = 1) (h : QD true a w d j (lasts s.data.toList (qsL bs) lo j)) (hlo : lo ≤ j) (hj : j < bs.length) (hn : bs.length ≤ 30) :
    Calls Try.prog 10 #[.pointer (some ⟨d, 0, none⟩), .string s, .int .i64 j, .string (qx (bs.getD j 0))] w fun e w' => e = .returned (.int .i64 0) ∧ QD true a w' d (j + 1) (lasts s.data.toList (qsL bs) lo (j + 1)) := by
  have hl := qs_len bs
  have H := h.write s j (qx (bs.getD j 0)) (by omega) (by omega) (qx_size _) (by rw [lasts_size _ _ _ (by omega)]; exact Nat.le_refl _) (by omega) (fun _ => Nat.lt_of_le_of_lt (lasts_len _ _ _ _) (by decide)) (by omega)
  rw [← qs_at bs hj, lasts_write _ _ hlo (by omega), qs_at bs hj] at H
  exact H
theorem l_sync {a w : World} {d j : Nat} {bs : List Int} {s : ByteArray} (hs : s.size = 1) (h : QD true a w d j (lasts s.data.toList (qsL bs) 0 j)) (h0 : 0 < j) :
    Calls Try.prog 12 #[.pointer (some ⟨d, 0, none⟩), .string s] w fun e w' => e = .returned (.int .i64 0) ∧ QD true a w' d j (lasts s.data.toList (qsL bs) j j) := by
  have H := h.sync s (by omega) (by omega) (lasts_get _ _ 0 h0)
  rw [lasts_sync _ _ h0] at H
  exact H
theorem l_crash {a w : World} {d S : Nat} {bs ks : List Int} {v : Value} {n : List UInt8} (h : QD true a w d bs.length (lasts n (qsL bs) S bs.length)) (hS : S ≤ bs.length) (hv : IntsR (fun _ => False) a v ks) :
    Calls Try.prog 13 #[.pointer (some ⟨d, 0, none⟩), v] w fun e w' => e = .returned (.int .i64 (lostC ks (bs.length - S) : Nat)) ∧ QD false a w' d bs.length (afterC n (qsL bs) ks S) := by
  have H := h.crashL ks hv
  rw [lost_lasts n (qsL bs) ks hS] at H
  have e := crash_lasts n (qsL bs) ks (S := S) (by rw [qs_len]; exact hS)
  rw [qs_len] at e
  rw [e] at H
  exact H
/-- what is there behind the crash -/
def afterR (bs ks : List Int) (S : Nat) : List ByteArray := kAll (qsL bs) ks S (bs.length - S)
theorem afterC_eq (n : List UInt8) (bs ks : List Int) (S : Nat) : afterC n (qsL bs) ks S = if 0 < (afterR bs ks S).length then [(n, ⟨afterR bs ks S, afterR bs ks S, true, []⟩)] else [] := by
  unfold afterC afterR
  rw [qs_len]
theorem after_facts (bs ks : List Int) {S : Nat} (hS : S ≤ bs.length) : KFacts (qsL bs) ks S (bs.length - S) (afterR bs ks S) := kAll_facts _ _ (by rw [qs_len]; exact hS) _
theorem l_size {a w : World} {d t : Nat} {S : Nat} {bs ks : List Int} {s : ByteArray} (hs : s.size = 1) (h : QD true a w d t (afterC s.data.toList (qsL bs) ks S)) :
    Calls Try.prog 15 #[.pointer (some ⟨d, 0, none⟩), .string s] w fun e w' => e = .returned (.tuple #[.int .i64 ((afterR bs ks S).length : Nat), .int .i64 (if 0 < (afterR bs ks S).length then 0 else 8)]) ∧ QD true a w' d t (afterC s.data.toList (qsL bs) ks S) := by
  have e := afterC_eq s.data.toList bs ks S
  by_cases h0 : 0 < (afterR bs ks S).length
  · rw [if_pos h0] at e ⊢
    exact h.sizeSome s (by omega) (by omega) (by rw [e]; exact getA_one _ _)
  · rw [if_neg h0] at e ⊢
    rw [show (afterR bs ks S).length = 0 by omega]
    exact h.sizeNone s (by omega) (by omega) (by rw [e]; rfl)
theorem l_read {a w : World} {d t i : Nat} {S : Nat} {bs ks : List Int} {s : ByteArray} (hs : s.size = 1) (h : QD true a w d t (afterC s.data.toList (qsL bs) ks S)) (hi : i < (afterR bs ks S).length) :
    Calls Try.prog 16 #[.pointer (some ⟨d, 0, none⟩), .string s, .int .i64 i] w fun e w' => e = .returned (.tuple #[.string ((afterR bs ks S).getD i zeros), .int .i64 0]) ∧ QD true a w' d t (afterC s.data.toList (qsL bs) ks S) := by
  have e := afterC_eq s.data.toList bs ks S
  rw [if_pos (by omega)] at e
  have hg : getA (afterC s.data.toList (qsL bs) ks S) s.data.toList = some ⟨afterR bs ks S, afterR bs ks S, true, []⟩ := by rw [e]; exact getA_one _ _
  have H := h.read s i (by omega) (by omega) (by unfold sizeA; rw [hg]; exact hi)
  have e2 : nowA (getA (afterC s.data.toList (qsL bs) ks S) s.data.toList) i = (afterR bs ks S).getD i zeros := by
    rw [hg]
    show (afterR bs ks S).getD i ⟨#[]⟩ = _
    rw [List.getD_eq_getElem?_getD, List.getD_eq_getElem?_getD, List.getElem?_eq_getElem hi]
    rfl
  rw [e2] at H
  exact H
theorem l_dirty {a w : World} {d t : Nat} {S : Nat} {bs ks : List Int} {n : List UInt8} (h : QD true a w d t (afterC n (qsL bs) ks S)) :
    Calls Try.prog 18 #[.pointer (some ⟨d, 0, none⟩)] w fun e w' => e = .returned (.int .i64 0) ∧ QD true a w' d t (afterC n (qsL bs) ks S) := by
  have H := h.dirty
  have e : wsA (afterC n (qsL bs) ks S) = [] := by
    rw [afterC_eq]
    split <;> simp [wsA]
  rw [e] at H
  exact H

end Go.Proofs.Ytlgloikhdbmgdaa.P4
