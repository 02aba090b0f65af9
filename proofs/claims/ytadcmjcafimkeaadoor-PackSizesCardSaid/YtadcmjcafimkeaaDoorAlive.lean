/-
  Package pack's Digits, and the statements' first call (alive), by contracts.
-/
import Derived.Test.YtadcmjcafimkeaaDoorGetC
import Derived.Test.YtadcmjcafimkeaaDoorShelf
import Derived.Lib.AppendIntMem
namespace Go.Proofs.YtadcmjcafimkeaaDoor.P1
open Go Go.RowKit Go.Lib

/-- the table of powers of ten -/
def Pow (w : World) : Prop := Lib.TabIs Tryd.prog w "internal/strconv.uint64pow10" .u64 Lib.pow10Tab
theorem gPow : Tryd.prog.globalNamed "internal/strconv.uint64pow10" = some 0 := by kernel_rfl
theorem Pow.lt {w : World} (h : Pow w) : 0 < w.heap.size := by
  unfold Pow Lib.TabIs World.var? at h
  simp only [gPow, Option.bind_some] at h
  rcases Nat.lt_or_ge 0 w.heap.size with h' | h'
  · exact h'
  · rw [Array.getElem?_eq_none h'] at h; simp at h
theorem Pow.below {w w' : World} {B : Nat} (h : Pow w) (hb : Below B w w') (hB : 0 < B) : Pow w' := by
  unfold Pow Lib.TabIs World.var? at *
  simp only [gPow, Option.bind_some] at *
  rw [hb.block 0 hB]; exact h

theorem digits_any (w : World) (n : Int) (h0 : -9223372036854775808 ≤ n) (h1 : n ≤ 9223372036854775807) (hp : Pow w) :
    Calls Tryd.prog 40 #[.int .i64 n] w fun r w' => r = .returned (.string ⟨(Lib.itoa n).toArray⟩) ∧ Below w.heap.size w w' := by
  have H := Lib.hid (Tryd.strconv_Itoa n h0 h1 w hp)
  clear h0 h1
  go_enter Tryd.func40, Tryd.ntmps40
  go_wp2_with (go_at_call 51; refine H.out.mono ?_; rintro e w' ⟨rfl, k, os, hw⟩)
  go_ret
  exact ⟨rfl, hw ▸ below_grow _ w (Nat.le_refl _) k os⟩

theorem e_half : getNum 2 ⟨#[2, 1, 1, 0, 97]⟩ 0 = (258, ⟨#[1, 0, 97]⟩, 0) := by kernel_rfl
theorem e_text : getTxt ⟨#[1, 0, 97]⟩ 0 = (⟨#[97]⟩, ⟨#[]⟩, 0) := by kernel_rfl
theorem e_itoa : (Lib.itoa (-7)).toArray = #[45, 55] := by kernel_rfl

theorem alive_any (w : World) (hp : Pow w) :
    Calls Tryd.prog 11 #[] w fun r w' => r = .returned (.bool true) ∧ Below w.heap.size w w' := by
  have k1 : ∀ w1, PutIs w1 w.heap.size [] 0 → Calls Tryd.prog 14 #[.pointer (some ⟨w.heap.size, 0, none⟩), .int .i64 258] w1 fun r w' => r = .returned (.pointer (some ⟨w.heap.size, 0, none⟩)) ∧ PutIs w' w.heap.size [2, 1] 0 ∧ Fr w.heap.size w1 w' :=
    fun w1 h => putHalf_any w1 w.heap.size [] 258 0 (by omega) (by simp) h
  have k2 : ∀ w1, PutIs w1 w.heap.size [2, 1] 0 → Calls Tryd.prog 18 #[.pointer (some ⟨w.heap.size, 0, none⟩), .string ⟨#[97]⟩] w1 fun r w' => r = .returned (.pointer (some ⟨w.heap.size, 0, none⟩)) ∧ PutIs w' w.heap.size [2, 1, 1, 0, 97] 0 ∧ Fr w.heap.size w1 w' :=
    fun w1 h => putText_any w1 w.heap.size [2, 1] 0 ⟨#[97]⟩ (by decide) h
  have k3 : ∀ w1, PutIs w1 w.heap.size [2, 1, 1, 0, 97] 0 → Calls Tryd.prog 21 #[.pointer (some ⟨w.heap.size, 0, none⟩)] w1 fun r w' => r = .returned (.tuple #[.string ⟨#[2, 1, 1, 0, 97]⟩, .int .i64 0]) ∧ w1 = w' :=
    fun w1 h => putEnd_ok w1 w.heap.size [2, 1, 1, 0, 97] h
  have k4 : ∀ w1 b, GetAt w1 b ⟨#[2, 1, 1, 0, 97]⟩ 0 → Calls Tryd.prog 26 #[.pointer (some ⟨b, 0, none⟩)] w1 fun r w' => r = .returned (.int .i64 258) ∧ GetAt w' b ⟨#[1, 0, 97]⟩ 0 ∧ Fr b w1 w' :=
    fun w1 b h => by have H := getHalf_any w1 b ⟨#[2, 1, 1, 0, 97]⟩ 0 h; rwa [e_half] at H
  have k5 : ∀ w1 b, GetAt w1 b ⟨#[1, 0, 97]⟩ 0 → Calls Tryd.prog 29 #[.pointer (some ⟨b, 0, none⟩)] w1 fun r w' => r = .returned (.string ⟨#[97]⟩) ∧ GetAt w' b ⟨#[]⟩ 0 ∧ Fr b w1 w' :=
    fun w1 b h => by have H := getText_any w1 b ⟨#[1, 0, 97]⟩ 0 h; rwa [e_text] at H
  have k6 : ∀ w1 b, GetAt w1 b ⟨#[]⟩ 0 → Calls Tryd.prog 36 #[.pointer (some ⟨b, 0, none⟩)] w1 fun r w' => r = .returned (.int .i64 0) ∧ Fr b w1 w' :=
    fun w1 b h => getEnd_any w1 b ⟨#[]⟩ 0 h
  have k7 : ∀ w1, Pow w1 → Calls Tryd.prog 40 #[.int .i64 (-7)] w1 fun r w' => r = .returned (.string ⟨#[45, 55]⟩) ∧ Below w1.heap.size w1 w' :=
    fun w1 h => by have H := digits_any w1 (-7) (by decide) (by decide) h; rwa [e_itoa] at H
  have h0 : PutIs (w.alloc (.cells #[.slice none 0 0, .pointer none, .int .i64 0] 29)) w.heap.size [] 0 := .inr ⟨new_at w _ _, rfl⟩
  have hb0 : Below w.heap.size w (w.alloc (.cells #[.slice none 0 0, .pointer none, .int .i64 0] 29)) := (Below.refl _ w).alloc (Nat.le_refl _) _
  have K1 := Lib.hid k1
  have K2 := Lib.hid k2
  have K3 := Lib.hid k3
  have K4 := Lib.hid k4
  have K5 := Lib.hid k5
  have K6 := Lib.hid k6
  have K7 := Lib.hid k7
  clear k1 k2 k3 k4 k5 k6 k7
  go_enter Tryd.func11, Tryd.ntmps11
  go_wp2_with (first
    | (go_at_call 14; refine (K1.out _ h0).mono ?_; rintro e w1 ⟨rfl, h1, hb1⟩)
    | (go_at_call 18; refine (K2.out _ h1).mono ?_; rintro e w2 ⟨rfl, h2, hb2⟩)
    | (go_at_call 21; refine (K3.out _ h2).mono ?_; rintro e w3 ⟨rfl, rfl⟩)
    | (go_at_call 23; refine (getFrom_any _ _).mono ?_; rintro e w4 ⟨rfl, h4, hb4, hz4⟩)
    | (go_at_call 26; refine (K4.out _ _ h4).mono ?_; rintro e w5 ⟨rfl, h5, hb5⟩)
    | (go_at_call 29; refine (K5.out _ _ h5).mono ?_; rintro e w6 ⟨rfl, h6, hb6⟩)
    | (go_at_call 36; refine (K6.out _ _ h6).mono ?_; rintro e w7 ⟨rfl, hb7⟩)
    | (go_at_call 40; refine (K7.out _ ?_).mono ?_; rotate_right; rintro e w8 ⟨rfl, hb8⟩))
  · go_ret
    have ha := hb0.trans (hb1.trans hb2).below
    have hz := ha.size
    have hc := ha.trans ((hb4.trans (hb5.trans (hb6.trans hb7)).below).mono hz)
    exact ⟨rfl, hc.trans (hb8.mono hc.size)⟩
  · have hg := hp.lt
    have ha := hb0.trans (hb1.trans hb2).below
    have hz := ha.size
    have hc := ha.trans ((hb4.trans (hb5.trans (hb6.trans hb7)).below).mono hz)
    exact hp.below hc hg

end Go.Proofs.YtadcmjcafimkeaaDoor.P1
