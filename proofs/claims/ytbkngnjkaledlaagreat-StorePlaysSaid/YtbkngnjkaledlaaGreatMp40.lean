/-
  Texts of the proof of SaidPlay8b.
-/
import Derived.Test.YtbkngnjkaledlaaGreatRows
import Derived.BigQuiet
import Derived.Deep.OwnRows
import Derived.WalkSpells
import Derived.Lib.BufSteps
import Derived.Lib.Hide
import Derived.Lib.BufferRead
import Derived.Deep.RegionHeld3
namespace Go.Proofs.YtbkngnjkaledlaaGreat.PB
open Go Go.RowKit Go.Lib
theorem text_ext {a b : ByteArray} (h : a.data.toList = b.data.toList) : a = b := by
 have e : ∀ s : ByteArray, (⟨s.data.toList.toArray⟩ : ByteArray) = s := fun s => by simp
 rw [← e a, ← e b, h]
theorem same_true {a b : ByteArray} (h : a = b) : (a.toList == b.toList) = true := by rw [h]; exact beq_self_eq_true _
theorem same_false {a b : ByteArray} (h : a ≠ b) : (a.toList == b.toList) = false := by
 rw [beq_eq_false_iff_ne, ByteArray.toList_eq, ByteArray.toList_eq]
 exact fun e => h (text_ext e)
theorem lt_of_block {w : World} {b : Nat} {o : Obj} (h : w.heap[b]? = some o) : b < w.heap.size := (Array.getElem?_eq_some_iff.1 h).1
theorem len_owned {w : World} {base e : Nat} {v : Value} {n : Nat} {xs : List Value} (h : w.ownsRow base e 1 v n xs) : ∃ a c, v = .slice a n c := by
 rcases h.2 with ⟨rfl, rfl⟩ | ⟨g, cap, cur, rfl, _⟩
 ·exact ⟨_, _, rfl⟩
 ·exact ⟨_, _, rfl⟩
theorem thenBelow {a w w' : World} (h : Below a.heap.size a w) (k : Below w.heap.size w w') : Below a.heap.size a w' := h.trans (k.mono h.size)
def TextsIn (w : World) (v : Value) (l : List ByteArray) : Prop :=
 ∃ a c, v = .slice a l.length c ∧ (a = none → c = 0) ∧ l.length ≤ 9223372036854775807 ∧ (∀ i (h : i < l.length), l[i].size ≤ 9223372036854775807) ∧ (0 < l.length → ∃ b off, a = some ⟨b, off, none⟩ ∧ b < w.heap.size ∧ ∀ i (h : i < l.length), w.cell? ⟨b, off + i, none⟩ = some (.string l[i]))
theorem TextsIn.nil (w : World) : TextsIn w (.slice none 0 0) [] := ⟨none, 0, rfl, fun _ => rfl, by simp, fun i h => absurd h (Nat.not_lt_zero _), fun h => absurd h (Nat.lt_irrefl _)⟩
theorem TextsIn.below {w w' : World} {v : Value} {l : List ByteArray} (h : TextsIn w v l) (hb : Below w.heap.size w w') : TextsIn w' v l := by
 obtain ⟨a, c, h1, hn, hl, hz, h2⟩ := h
 refine ⟨a, c, h1, hn, hl, hz, fun h0 => ?_⟩
 obtain ⟨b, off, h3, h4, h5⟩ := h2 h0
 exact ⟨b, off, h3, Nat.lt_of_lt_of_le h4 hb.size, fun i hi => by rw [hb.cell (p := ⟨b, off + i, none⟩) h4]; exact h5 i hi⟩
theorem list_get_ne {l m : List ByteArray} {k : Nat} (h1 : k < l.length) (h2 : k < m.length) (h : l[k] ≠ m[k]) : l ≠ m := by
 intro e; subst e; exact h rfl
theorem sameTexts_any (w : World) (u v : Value) (l m : List ByteArray) (h1 : TextsIn w u l) (h2 : TextsIn w v m) :
  Calls Tryz.prog 79 #[u, v] w fun e w' => e = .returned (.bool (decide (l = m))) ∧ Below w.heap.size w w' := by
 obtain ⟨d, hd⟩ : ∃ d, d = decide (l = m) := ⟨_, rfl⟩
 rw [← hd]
 obtain ⟨a, c, rfl, _, hl, _, hc⟩ := h1
 obtain ⟨a2, c2, rfl, _, _, _, hc2⟩ := h2
 by_cases hlen : l.length = m.length
 ·have k0 : ((l.length : Int) != (m.length : Int)) = false := by simp [hlen]
  have HD := Lib.hid hd
  clear hd
  go_enter Tryz.func79, Tryz.ntmps79
  go_wp2
  go_loopw [5] (fun i wr => ∃ k q : Nat, k ≤ l.length ∧ i = .int .i64 k ∧ wr = w.drewN q ∧ Hid (∀ j (h : j < l.length) (h' : j < m.length), j < k → l[j] = m[j])) (fun i _ => l.length - (RowKit.intOf i).toNat)
  case atStart => exact ⟨0, 0, Nat.zero_le _, rfl, rfl, fun j _ _ h => absurd h (Nat.not_lt_zero _)⟩
  case round =>
   obtain ⟨k, q, hk, rfl, rfl, hsame⟩ := hrel
   by_cases hlt : k < l.length
   ·obtain ⟨b, off, rfl, hb, hcc⟩ := hc (by omega)
    obtain ⟨b2, off2, rfl, hb2, hcc2⟩ := hc2 (by omega)
    have hlt2 : k < m.length := by omega
    have hcell := hcc k hlt
    have hcell2 := hcc2 k hlt2
    have hne := list_get_ne hlt hlt2
    have hnx : l[k] = m[k] → Hid (∀ j (h : j < l.length) (h' : j < m.length), j < k + 1 → l[j] = m[j]) := fun e j hj hj' h => by
     by_cases ej : j = k
     ·subst ej; exact e
     ·exact hsame.out j hj hj' (by omega)
    have kk : (k : Int) < (l.length : Int) := by omega
    have kk2 : (k : Int) < (m.length : Int) := by omega
    have kk0 : (0 : Int) ≤ (k : Int) := by omega
    generalize l[k] = s at hcell hne hnx
    generalize m[k] = t at hcell2 hne hnx
    clear hcc hcc2 hc hc2 hsame
    by_cases e : s = t
    ·have he := same_true e
     have hN := hnx e
     clear hne hnx
     go_wp2
     go_quiet (fail)
     go_wp2
     go_roundw
     case rel => exact ⟨k + 1, _, by omega, by go_num, rfl, hN⟩
     case measure => simp [RowKit.intOf]; omega
    ·have he := same_false e
     have hdf : Hid (d = false) := HD.out.trans (decide_eq_false (hne e))
     clear hne hnx e
     go_wp2
     go_quiet (fail)
     go_wp2
     go_ret
     exact ⟨by rw [hdf.out]; rfl, ⟨rfl, rfl, rfl, Nat.le_refl _, fun _ _ => rfl⟩⟩
   ·have hdt : Hid (d = true) := HD.out.trans (decide_eq_true (List.ext_getElem hlen fun j hj hj' => hsame.out j hj hj' (by omega)))
    clear hsame hc hc2
    go_wp2
    go_ret
    exact ⟨by rw [hdt.out]; rfl, ⟨rfl, rfl, rfl, Nat.le_refl _, fun _ _ => rfl⟩⟩
 ·have k0 : ((l.length : Int) != (m.length : Int)) = true := by simp; omega
  have hdf : Hid (d = false) := hd.trans (decide_eq_false (fun e => hlen (congrArg List.length e)))
  clear hd hlen hc hc2
  go_enter Tryz.func79, Tryz.ntmps79
  go_wp2
  go_ret
  exact ⟨by rw [hdf.out]; rfl, Below.refl _ _⟩
theorem tRow_texts {w : World} {lo : Nat} {v : Value} {l : List ByteArray} (h : w.ownsRow lo 9 1 v l.length (l.map Value.string)) (hl : l.length ≤ 9223372036854775807) (hz : ∀ i (h : i < l.length), l[i].size ≤ 9223372036854775807) : TextsIn w v l := by
 have hown := h
 rcases h.2 with ⟨e, h0⟩ | ⟨g, cap, cur, e, h2, h3, h4, h5, _⟩
 ·obtain rfl := List.eq_nil_of_length_eq_zero h0
  rw [e]
  exact TextsIn.nil w
 ·subst e
  refine ⟨_, cap, rfl, (fun q => by cases q), hl, hz, fun _ => ⟨g, 0, rfl, lt_of_block h3, fun i hi => ?_⟩⟩
  have := hown.cells rfl i (.string l[i]) (by rw [List.getElem?_map, List.getElem?_eq_getElem hi]; rfl)
  rw [Go.WideShapes.add_plain, Nat.zero_add] at this
  rw [Nat.zero_add]
  exact this
end Go.Proofs.YtbkngnjkaledlaaGreat.PB
