/-
  A text's bytes, one of them turned. (LawChanged's second part, over any seat.)
-/
import Derived.Test.YtcoaabplhkmpfaaCrc5
import Derived.Lib.ConvBytes
namespace Go.Proofs.Ytcoaabplhkmpfaa.P2
open Go Go.RowKit Go.Lib Go.Proofs.Ytcoaabplhkmpfaa.P0

theorem flip_code (a : UInt8) (d : Nat) : bits .xor .u8 (a.toNat : Int) ((d : Int) % 256) = ((a ^^^ UInt8.ofNat d).toNat : Int) := by
  have h := a.toNat_lt
  rw [show ((d : Int) % 256) = ((d % 256 : Nat) : Int) by omega, u8_xor_nat a.toNat (d % 256) (by omega) (by omega), UInt8.toNat_xor, UInt8.toNat_ofNat']
theorem flip_ne (a : UInt8) (d : Nat) (h : d % 256 ≠ 0) : a ^^^ UInt8.ofNat d ≠ a := by
  intro e
  have e := congrArg UInt8.toNat e
  rw [UInt8.toNat_xor, UInt8.toNat_ofNat'] at e
  have e2 : a.toNat ^^^ (d % 2 ^ 8) = a.toNat ^^^ 0 := by rw [e, Nat.xor_zero]
  rw [Nat.xor_comm, Nat.xor_comm a.toNat 0] at e2
  exact h (xor_cancel e2)

/-- what '[]byte(b)' lays, one byte of it turned, as a text -/
theorem bytes_cell (w : World) (b : ByteArray) (q : Nat) (hq : q < b.data.toList.length) : (Lib.bytesWorld w 5 b).cell? ⟨w.heap.size, q, none⟩ = some (.int .u8 (b.data.toList[q].toNat : Int)) := by
  rw [Lib.bytesWorld_cell w 5 b q (by simpa using hq), List.getD_eq_getElem?_getD, List.getElem?_eq_getElem hq]
  rfl
theorem bytes_free (w : World) (b : ByteArray) (q : Nat) (hq : q < b.data.toList.length) : (Lib.bytesWorld w 5 b).frozen? ⟨w.heap.size, q, none⟩ = false := by
  have hz : b.size ≤ (Lib.bytesCells w 5 b).size := by simp [Lib.bytesCells]
  have := text_len b
  simp [World.frozen?, Lib.bytesWorld_at_new]
  omega
theorem bytes_turned (w : World) (b : ByteArray) (q c : Nat) (v : UInt8) (hq : q < b.data.toList.length) :
    (convert 41 9 (.slice (some ⟨w.heap.size, 0, none⟩) b.size c)).run Try.prog ((Lib.bytesWorld w 5 b).setCell ⟨w.heap.size, q, none⟩ (.int .u8 (v.toNat : Int))) =
      .ok (.string (str (b.data.toList.set q v))) ((Lib.bytesWorld w 5 b).setCell ⟨w.heap.size, q, none⟩ (.int .u8 (v.toNat : Int))) := by
  have hz : b.size = (b.data.toList.set q v).length := by rw [List.length_set, text_len]
  rw [hz]
  refine run_convert_bytes_back _ 41 9 5 ⟨w.heap.size, 0, none⟩ c (b.data.toList.set q v) Try.underlying41 Try.underlying5 Try.underlying9 (fun j hj => ?_)
  rw [Go.WideShapes.add_plain, Nat.zero_add]
  have hj' : j < b.data.toList.length := by simpa using hj
  by_cases e : j = q
  · subst e
    rw [List.getElem_set_self]
    exact World.cell?_setCell_same _ _ _ (bytes_cell w b j hq)
  · rw [List.getElem_set_ne (Ne.symm e), World.cell?_setCell_other _ _ _ _ (fun h => e (by simpa using h.symm))]
    exact bytes_cell w b j hj'


end Go.Proofs.Ytcoaabplhkmpfaa.P2
