/-
  Package leaf: fit, Cut.
-/
import Derived.Test.YtloajjaaidmaiaaU7
namespace Go.Proofs.Ytloajjaaidmaiaa.P9
open Go Go.RowKit Go.Lib Go.Proofs.Ytloajjaaidmaiaa.PK

theorem ok_need {x : It} (h : x.ok = true) : x.need ≤ 133 := by
  unfold It.ok at h
  obtain ⟨o1, o2, o3, o4, o5⟩ := of_decide_eq_true h
  unfold It.need
  omega
theorem sumI_mono {l : List It} {m n : Nat} (h : m ≤ n) : sumI (l.take m) ≤ sumI (l.take n) := by
  have e : l.take m = (l.take n).take m := by rw [List.take_take, Nat.min_eq_left h]
  rw [e]
  exact sumI_le m

set_option maxRecDepth 100000 in
theorem fit_any (w : World) (v : Value) (l : List It) (h : ItsIn w v l) (hr : ∀ x ∈ l, x.ok = true) (h0 : 0 < l.length) (hn : l.length ≤ 1000000) :
    Calls Try.prog 25 #[v] w fun e w' => ∃ n : Nat, e = .returned (.int .i64 n) ∧ Fills l n ∧ Below w.heap.size w w' := by
  obtain ⟨a, c, rfl⟩ := h.slice
  have HA := Lib.hid (fun (i : Nat) (x : It) (hi : l[i]? = some x) => h.at_ hi)
  have HN := Lib.hid (fun W x hx => need_any W x hx)
  have HR := Lib.hid hr
  clear h hr
  go_enter Try.func25, Try.ntmps25
  go_wp2
  go_loopw [3, 8] (fun vn vi wr => ∃ i r : Nat, i ≤ l.length ∧ vn = .int .i64 r ∧ vi = .int .i64 i ∧ Hid (r + sumI (l.take i) = 231) ∧ r ≤ 231 ∧ Hid (Below w.heap.size w wr)) (fun _ vi _ => l.length - (RowKit.intOf vi).toNat)
  case atStart => exact ⟨0, 231, Nat.zero_le _, rfl, rfl, (rfl : 231 + sumI (l.take 0) = 231), Nat.le_refl _, Below.refl _ _⟩
  case round =>
    obtain ⟨i, r, hi, rfl, rfl, HS, hr9, HB⟩ := hrel
    by_cases hlt : i < l.length
    · obtain ⟨x, hx⟩ : ∃ x, l[i]? = some x := ⟨_, List.getElem?_eq_getElem hlt⟩
      obtain ⟨b, off, rfl, hc⟩ := HA.out i x hx
      obtain ⟨c0, c1, c2⟩ := hc wr HB.out
      have k1 : decide ((i : Int) < (l.length : Int)) = true := decide_eq_true (by omega)
      have k2 : (i : Int) < (l.length : Int) := by omega
      have k3 : (0 : Int) ≤ (i : Int) := by omega
      have hok := HR.out x (List.mem_of_getElem? hx)
      have hnd := ok_need hok
      have HNx : Hid (∀ W, Calls Try.prog 26 #[.agg #[.string x.key, .string x.val, .int .i64 x.kind]] W fun r w' => r = .returned (.int .i64 (x.need : Nat)) ∧ Below W.heap.size W w') := fun W => HN.out W x (by omega)
      have hst := sumI_take hx
      by_cases hq : x.need ≤ r
      · have HS2 : Hid (r - x.need + sumI (l.take (i + 1)) = 231) := by
          show _ = _
          have := HS.out
          omega
        have k4 : decide ((r : Int) - (x.need : Int) < 0) = false := decide_eq_false (by omega)
        have k5 : (r : Int) - (x.need : Int) = ((r - x.need : Nat) : Int) := by omega
        generalize x.need = nd at *
        clear hc hx HN hst hok
        go_wp2_with (go_at_call 26; (with_reducible refine (HNx.out _).mono ?_); rintro e w2 ⟨rfl, hb2⟩; have HB2 := Lib.hid (thenBelow (grow HB.out _) hb2); clear hb2)
        go_roundw
        case rel => exact ⟨i + 1, r - nd, by omega, by go_num, by go_num, HS2, by omega, HB2⟩
        case measure => simp [RowKit.intOf]; omega
      · have k4 : decide ((r : Int) - (x.need : Int) < 0) = true := decide_eq_true (by omega)
        have HF : Hid (Fills l i) := by
          have hs := HS.out
          refine ⟨Nat.pos_of_ne_zero fun e => ?_, by omega, fun m _ hm => ?_, fun _ => by omega⟩
          · subst e
            rw [show sumI (l.take 0) = 0 from rfl] at hs
            omega
          · have := sumI_mono (l := l) hm
            omega
        generalize x.need = nd at *
        clear hc hx HN hst hok
        go_wp2_with (go_at_call 26; (with_reducible refine (HNx.out _).mono ?_); rintro e w2 ⟨rfl, hb2⟩; have HB2 := Lib.hid (thenBelow (grow HB.out _) hb2); clear hb2)
        go_ret
        exact ⟨i, rfl, HF.out, HB2.out⟩
    · have e : i = l.length := by omega
      subst e
      have k1 : decide ((l.length : Int) < (l.length : Int)) = false := decide_eq_false (by omega)
      have HF : Hid (Fills l l.length) := by
        have hs := HS.out
        rw [List.take_length] at hs
        refine ⟨h0, Nat.le_refl _, fun m _ hm => ?_, fun q => absurd q (Nat.lt_irrefl _)⟩
        have := sumI_le (l := l) m
        omega
      go_wp2
      go_ret
      exact ⟨_, rfl, HF.out, HB.out⟩

end Go.Proofs.Ytloajjaaidmaiaa.P9
