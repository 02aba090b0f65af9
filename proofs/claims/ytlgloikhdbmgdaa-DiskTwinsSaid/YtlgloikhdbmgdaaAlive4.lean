/-
  The law's first call.
-/
import Derived.Test.YtlgloikhdbmgdaaAb1
namespace Go.Proofs.Ytlgloikhdbmgdaa.P4
open Go Go.RowKit Go.Lib Go.Maps Go.ChangeMaps Go.MapKept Go.Proofs.Ytlgloikhdbmgdaa.P3

theorem torn_all {x s : ByteArray} (hx : x.size = 256) (hs : s.size = 256) : torn 256 x s = x := by
  unfold torn
  have e1 : x.extract 0 256 = x := by rw [← hx]; exact ByteArray.extract_zero_size
  have e2 : s.extract 256 s.size = ByteArray.empty := by rw [hs]; exact ByteArray.extract_same
  rw [e1, e2, ByteArray.append_empty]
def sA : ByteArray := ⟨#[97]⟩
def sB : ByteArray := ⟨#[98]⟩
def al1 (x : ByteArray) : AL := [([97], ⟨[x], [], false, [(1, 0, x)]⟩)]
def al2 (x : ByteArray) : AL := [([97], ⟨[x], [x], true, []⟩)]
def al3 (x : ByteArray) : AL := [([98], ⟨[x], [], false, [(2, 0, x)]⟩), ([97], ⟨[x], [x], true, []⟩)]
theorem al_w1 (x : ByteArray) : writeA [] [97] 1 0 x = al1 x := rfl
theorem al_w2 (x : ByteArray) : writeA (al2 x) [98] 2 0 x = al3 x := rfl
theorem al_l1 (x : ByteArray) : lostA (keptA (al1 x) [256]) (al1 x) = 0 := rfl
theorem al_l2 (x : ByteArray) : lostA (keptA (al3 x) []) (al3 x) = 1 := rfl
theorem al_c1 (x : ByteArray) (hx : x.size = 256) : crashA (al1 x) [256] = al2 x := by
  have e : crashA (al1 x) [256] = [([97], ⟨[torn 256 x zeros], [torn 256 x zeros], true, []⟩)] := rfl
  rw [e, torn_all hx zeros_size]
  rfl
theorem al_c2 (x : ByteArray) : crashA (al3 x) [] = al2 x := rfl

theorem al_write1 {a w : World} {d : Nat} {x : ByteArray} (hx : x.size = 256) (h : QD true a w d 0 []) : Calls Try.prog 10 #[.pointer (some ⟨d, 0, none⟩), .string ⟨#[97]⟩, .int .i64 0, .string x] w fun e w' => e = .returned (.int .i64 0) ∧ QD true a w' d 1 (al1 x) :=
  h.write ⟨#[97]⟩ 0 x (by decide) (by decide) hx (Nat.zero_le _) (by omega) (fun _ => by decide) (by omega)
theorem al_write2 {a w : World} {d : Nat} {x : ByteArray} (hx : x.size = 256) (h : QD true a w d 1 (al2 x)) : Calls Try.prog 10 #[.pointer (some ⟨d, 0, none⟩), .string ⟨#[98]⟩, .int .i64 0, .string x] w fun e w' => e = .returned (.int .i64 0) ∧ QD true a w' d 2 (al3 x) :=
  h.write ⟨#[98]⟩ 0 x (by decide) (by decide) hx (Nat.zero_le _) (by omega) (fun _ => by show 1 < 60; decide) (by omega)
theorem al_crash1 {a w : World} {d : Nat} {x : ByteArray} (hx : x.size = 256) (h : QD true a w d 1 (al1 x)) : Calls Try.prog 13 #[.pointer (some ⟨d, 0, none⟩), .slice (some ⟨w.heap.size, 0, none⟩) 1 1] (w.alloc (.cells #[.int .i64 256] 3)) fun e w' => e = .returned (.int .i64 0) ∧ QD false a w' d 1 (al2 x) := by
  have H := h.crash1 256
  rw [al_l1, al_c1 x hx] at H
  exact H
theorem al_crash2 {a w : World} {d : Nat} {x : ByteArray} (h : QD true a w d 2 (al3 x)) : Calls Try.prog 13 #[.pointer (some ⟨d, 0, none⟩), .slice none 0 0] w fun e w' => e = .returned (.int .i64 1) ∧ QD false a w' d 2 (al2 x) := by
  have H := h.crash0
  rw [al_l2, al_c2 x] at H
  exact H
theorem al_read {a w : World} {d : Nat} {x : ByteArray} (h : QD true a w d 1 (al2 x)) : Calls Try.prog 16 #[.pointer (some ⟨d, 0, none⟩), .string ⟨#[97]⟩, .int .i64 0] w fun e w' => e = .returned (.tuple #[.string x, .int .i64 0]) ∧ QD true a w' d 1 (al2 x) :=
  h.read ⟨#[97]⟩ 0 (by decide) (by decide) (by show 0 < 1; decide)
theorem al_size {a w : World} {d : Nat} {x : ByteArray} (h : QD true a w d 2 (al2 x)) : Calls Try.prog 15 #[.pointer (some ⟨d, 0, none⟩), .string ⟨#[98]⟩] w fun e w' => e = .returned (.tuple #[.int .i64 0, .int .i64 8]) ∧ QD true a w' d 2 (al2 x) :=
  h.sizeNone ⟨#[98]⟩ (by decide) (by decide) rfl

set_option maxRecDepth 100000 in
theorem alive_any4 (w : World) : Calls Try.prog 8 #[] w fun e w' => e = .returned (.bool true) ∧ Below w.heap.size w w' := by
  obtain ⟨x, hx0⟩ : ∃ x, x = fillB ⟨#[120]⟩ := ⟨_, rfl⟩
  have hx : x.size = 256 := by rw [hx0]; exact fillB_size _
  have HF : Hid (∀ w, Calls Try.prog 11 #[.string ⟨#[120]⟩, .bool true] w fun e w' => e = .returned (.string x) ∧ Below w.heap.size w w') := fun w => by rw [hx0]; exact fill_own w _ (by decide)
  have HX := Lib.hid hx
  have HN := Lib.hid (fun w => qd_new w)
  have heq : (x.toList == x.toList) = true := beq_self_eq_true _
  clear hx0 hx
  go_enter Try.func8, Try.ntmps8
  go_wp2_with (first
    | (go_at_call 9; (with_reducible refine (HN.out _).mono ?_); rintro e w1 ⟨rfl, hq⟩; have HQ := Lib.hid hq; clear hq)
    | (go_at_call 11; (with_reducible refine (HF.out _).mono ?_); rintro e w2 ⟨rfl, hb⟩; have HQ := Lib.hid (HQ.out.below hb); clear hb)
    | (go_at_call 10; (with_reducible refine (al_write1 HX.out HQ.out).mono ?_); rintro e w3 ⟨rfl, hq⟩; have HQ := Lib.hid hq; clear hq)
    | (go_at_call 13; (with_reducible refine (al_crash1 HX.out HQ.out).mono ?_); rintro e w4 ⟨rfl, hq⟩; have HQ := Lib.hid hq; clear hq)
    | (go_at_call 14; (with_reducible refine (HQ.out.restore).mono ?_); rintro e w5 ⟨rfl, hq⟩; have HQ := Lib.hid hq; clear hq)
    | (go_at_call 16; (with_reducible refine (al_read HQ.out).mono ?_); rintro e w6 ⟨rfl, hq⟩; have HQ := Lib.hid hq; clear hq)
    | (go_at_call 10; (with_reducible refine (al_write2 HX.out HQ.out).mono ?_); rintro e w7 ⟨rfl, hq⟩; have HQ := Lib.hid hq; clear hq)
    | (go_at_call 13; (with_reducible refine (al_crash2 HQ.out).mono ?_); rintro e w8 ⟨rfl, hq⟩; have HQ := Lib.hid hq; clear hq)
    | (go_at_call 15; (with_reducible refine (al_size HQ.out).mono ?_); rintro e w9 ⟨rfl, hq⟩; have HQ := Lib.hid hq; clear hq)
    | (go_at_call 20; (with_reducible refine (HQ.out.on_).mono ?_); rintro e w10 ⟨rfl, rfl⟩))
  go_ret
  exact ⟨rfl, HQ.out.fr⟩

end Go.Proofs.Ytlgloikhdbmgdaa.P4
