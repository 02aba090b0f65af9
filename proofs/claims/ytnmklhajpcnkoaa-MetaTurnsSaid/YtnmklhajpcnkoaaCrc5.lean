/-
  Check sums as numbers: what a changed byte does. No program. (LawChanged's first part.)
-/
import Derived.Test.YtnmklhajpcnkoaaSum5
namespace Go.Proofs.Ytnmklhajpcnkoaa.P2
open Go Go.RowKit Go.Lib Go.Proofs.Ytnmklhajpcnkoaa.P0

theorem xor_cancel {x y c : Nat} (h : x ^^^ c = y ^^^ c) : x = y := by
  have := congrArg (fun z => z ^^^ c) h
  simpa [Nat.xor_assoc] using this
theorem bit1_top {x : Nat} (h : x < 4294967296) : (bit1 x).testBit 31 = decide (x % 2 = 1) := by
  have hx : (x / 2).testBit 31 = false := Nat.testBit_lt_two_pow (by omega)
  unfold bit1
  by_cases ho : x % 2 = 1
  · rw [if_pos ho, Nat.testBit_xor, hx, decide_eq_true ho]; decide
  · rw [if_neg ho, hx, decide_eq_false ho]
theorem bit1_inj {x y : Nat} (hx : x < 4294967296) (hy : y < 4294967296) (h : bit1 x = bit1 y) : x = y := by
  have e := (bit1_top hx).symm.trans ((congrArg (fun z => Nat.testBit z 31) h).trans (bit1_top hy))
  have hp : x % 2 = 1 ↔ y % 2 = 1 := decide_eq_decide.1 e
  unfold bit1 at h
  by_cases ho : x % 2 = 1
  · rw [if_pos ho, if_pos (hp.1 ho)] at h
    have := xor_cancel h
    omega
  · rw [if_neg ho, if_neg (fun k => ho (hp.2 k))] at h
    omega
theorem bitN_inj {x y : Nat} (hx : x < 4294967296) (hy : y < 4294967296) (n : Nat) (h : bitN n x = bitN n y) : x = y := by
  induction n with
  | zero => exact h
  | succ n ih => exact ih (bit1_inj (bitN_lt hx n) (bitN_lt hy n) h)
theorem upd_inj {x y : Nat} (hx : x < 4294967296) (hy : y < 4294967296) (l : List UInt8) (h : upd x l = upd y l) : x = y := by
  induction l generalizing x y with
  | nil => exact h
  | cons c r ih => exact xor_cancel (bitN_inj (xor_byte_lt hx c) (xor_byte_lt hy c) 8 (ih (bitN_lt (xor_byte_lt hx c) 8) (bitN_lt (xor_byte_lt hy c) 8) h))
theorem upd_cons (x : Nat) (c : UInt8) (l : List UInt8) : upd x (c :: l) = upd (bitN 8 (x ^^^ c.toNat)) l := by rw [upd, upd, List.foldl_cons]
theorem xor_cancel_left {x y c : Nat} (h : c ^^^ x = c ^^^ y) : x = y := by
  rw [Nat.xor_comm c x, Nat.xor_comm c y] at h
  exact xor_cancel h
theorem upd_differs {z : Nat} (hz : z < 4294967296) {p q : List UInt8} {a b : UInt8} (h : a ≠ b) : upd z (p ++ a :: q) ≠ upd z (p ++ b :: q) := by
  intro e
  rw [upd_append, upd_append, upd_cons, upd_cons] at e
  have hp := upd_lt hz p
  generalize upd z p = y at e hp
  have e := bitN_inj (xor_byte_lt hp a) (xor_byte_lt hp b) 8 (upd_inj (bitN_lt (xor_byte_lt hp a) 8) (bitN_lt (xor_byte_lt hp b) 8) q e)
  exact h (UInt8.toNat_inj.1 (xor_cancel_left e))
theorem fin_inj {z : Nat} {a b : List UInt8} (h : 4294967295 ^^^ upd z a = 4294967295 ^^^ upd z b) : upd z a = upd z b := xor_cancel_left h
theorem crc_differs {p q : List UInt8} {a b : UInt8} (h : a ≠ b) : crc (p ++ a :: q) ≠ crc (p ++ b :: q) := fun e =>
  upd_differs (by decide) h (fin_inj e)

theorem low4_inj {x y : Nat} (hx : x < 4294967296) (hy : y < 4294967296) (h : low 4 x = low 4 y) : x = y := by
  have hl : ∀ x, low 4 x = [UInt8.ofNat x, UInt8.ofNat (x / 256), UInt8.ofNat (x / 65536), UInt8.ofNat (x / 16777216)] := fun x => by simp [low, List.range, List.range.loop]
  rw [hl, hl] at h
  simp only [List.cons.injEq, and_true] at h
  obtain ⟨h0, h1, h2, h3⟩ := h
  have e : ∀ {n m : Nat}, UInt8.ofNat n = UInt8.ofNat m → n % 256 = m % 256 := fun {n m} h => by
    have := congrArg UInt8.toNat h
    rwa [UInt8.toNat_ofNat', UInt8.toNat_ofNat'] at this
  have e0 := e h0
  have e1 := e h1
  have e2 := e h2
  have e3 := e h3
  omega
theorem set_differs {l : List UInt8} {q : Nat} (v : UInt8) (h : q < l.length) : ∃ p r, l = p ++ l[q] :: r ∧ l.set q v = p ++ v :: r := by
  refine ⟨l.take q, l.drop (q + 1), ?_, List.set_eq_take_append_cons_drop.trans (if_pos h)⟩
  rw [← List.drop_eq_getElem_cons h, List.take_append_drop]


end Go.Proofs.Ytnmklhajpcnkoaa.P2
