/-
  Package twig: Valid, need, Size.
-/
import Derived.Test.YthihjkdankbnjaaGreatT0
namespace Go.Proofs.YthihjkdankbnjaaGreat.P10
open Go Go.RowKit Go.Lib Go.Proofs.YthihjkdankbnjaaGreat.PK

set_option maxHeartbeats 4000000 in
theorem valid_any (w : World) (x : It) :
    Calls Tryz.prog 16 #[x.v] w fun r w' => r = .returned (.bool x.ok) ∧ Below w.heap.size w w' := by
  obtain ⟨key, page⟩ := x
  by_cases h0 : key.size ≤ 32
  · by_cases h1 : 2 ≤ page
    · by_cases h2 : page ≤ 3999
      · have e : It.ok ⟨key, page⟩ = true := decide_eq_true ⟨h0, h1, h2⟩
        rw [e]
        clear e
        have b0x : decide ((key.size : Int) ≤ 32) = true := decide_eq_true (by omega)
        have b0y : decide (key.size ≤ 32) = true := decide_eq_true (by omega)
        have b1x : decide ((2 : Int) ≤ page) = true := decide_eq_true (by omega)
        have b1y : decide (page ≥ (2 : Int)) = true := decide_eq_true (by omega)
        have b2x : decide (page < (4000 : Int)) = true := decide_eq_true (by omega)
        clear h0 h1 h2
        unfold It.v
        go_enter Tryz.func16, Tryz.ntmps16
        go_wp2
        go_ret
        exact ⟨rfl, below_new _ _⟩
      · have e : It.ok ⟨key, page⟩ = false := decide_eq_false (fun h => h2 (h.2.2))
        rw [e]
        clear e
        have b0x : decide ((key.size : Int) ≤ 32) = true := decide_eq_true (by omega)
        have b0y : decide (key.size ≤ 32) = true := decide_eq_true (by omega)
        have b1x : decide ((2 : Int) ≤ page) = true := decide_eq_true (by omega)
        have b1y : decide (page ≥ (2 : Int)) = true := decide_eq_true (by omega)
        have b2x : decide (page < (4000 : Int)) = false := decide_eq_false (by omega)
        clear h0 h1 h2
        unfold It.v
        go_enter Tryz.func16, Tryz.ntmps16
        go_wp2
        go_ret
        exact ⟨rfl, below_new _ _⟩
    · have e : It.ok ⟨key, page⟩ = false := decide_eq_false (fun h => h1 (h.2.1))
      rw [e]
      clear e
      have b0x : decide ((key.size : Int) ≤ 32) = true := decide_eq_true (by omega)
      have b0y : decide (key.size ≤ 32) = true := decide_eq_true (by omega)
      have b1x : decide ((2 : Int) ≤ page) = false := decide_eq_false (by omega)
      have b1y : decide (page ≥ (2 : Int)) = false := decide_eq_false (by omega)
      clear h0 h1
      unfold It.v
      go_enter Tryz.func16, Tryz.ntmps16
      go_wp2
      go_ret
      exact ⟨rfl, below_new _ _⟩
  · have e : It.ok ⟨key, page⟩ = false := decide_eq_false (fun h => h0 (h.1))
    rw [e]
    clear e
    have b0x : decide ((key.size : Int) ≤ 32) = false := decide_eq_false (by omega)
    have b0y : decide (key.size ≤ 32) = false := decide_eq_false (by omega)
    clear h0
    unfold It.v
    go_enter Tryz.func16, Tryz.ntmps16
    go_wp2
    go_ret
    exact ⟨rfl, below_new _ _⟩

theorem need_any (w : World) (x : It) (h : x.need ≤ 1000000) :
    Calls Tryz.prog 39 #[x.v] w fun r w' => r = .returned (.int .i64 (x.need : Nat)) ∧ Below w.heap.size w w' := by
  obtain ⟨key, page⟩ := x
  unfold It.need at *
  simp only at h ⊢
  have h1 : 4 + key.size ≤ 1000000 := by omega
  unfold It.v
  go_enter Tryz.func39, Tryz.ntmps39
  go_wp2
  go_ret
  exact ⟨by first | rfl | simp, below_new _ _⟩

theorem need_le {l : List It} {i : Nat} {x : It} (h : l[i]? = some x) : x.need ≤ sumI l := by
  have h1 := sumI_take h
  have h2 := sumI_le (l := l) (i + 1)
  omega

set_option maxRecDepth 100000 in
theorem size_any (w : World) (v : Value) (l : List It) (h : ItsIn w v l) (hs : sumI l ≤ 1000000) :
    Calls Tryz.prog 13 #[v] w fun e w' => e = .returned (.int .i64 ((1 + sumI l : Nat) : Int)) ∧ Below w.heap.size w w' := by
  obtain ⟨a, c, rfl⟩ := h.slice
  have hl := h.len
  have HA := Lib.hid (fun (i : Nat) (x : It) (hi : l[i]? = some x) => h.at_ hi)
  have HN := Lib.hid (fun W x hx => need_any W x hx)
  have HS := Lib.hid hs
  clear h hs
  go_enter Tryz.func13, Tryz.ntmps13
  go_wp2
  go_loopw [3, 8] (fun vn vi wr => ∃ i : Nat, i ≤ l.length ∧ vn = .int .i64 ((1 + sumI (l.take i) : Nat) : Int) ∧ vi = .int .i64 i ∧ Hid (Below w.heap.size w wr)) (fun _ vi _ => l.length - (RowKit.intOf vi).toNat)
  case atStart => exact ⟨0, Nat.zero_le _, rfl, rfl, Below.refl _ _⟩
  case round =>
    obtain ⟨i, hi, rfl, rfl, HB⟩ := hrel
    by_cases hlt : i < l.length
    · obtain ⟨x, hx⟩ : ∃ x, l[i]? = some x := ⟨_, List.getElem?_eq_getElem hlt⟩
      obtain ⟨b, off, rfl, hc⟩ := HA.out i x hx
      obtain ⟨c0, c1⟩ := hc wr HB.out
      have k1 : decide ((i : Int) < (l.length : Int)) = true := decide_eq_true (by omega)
      have k2 : (i : Int) < (l.length : Int) := by omega
      have k3 : (0 : Int) ≤ (i : Int) := by omega
      have hn1 : x.need ≤ 1000000 := Nat.le_trans (need_le hx) HS.out
      have HNx : Hid (∀ W, Calls Tryz.prog 39 #[.agg #[.string x.key, .int .i64 x.page]] W fun r w' => r = .returned (.int .i64 (x.need : Nat)) ∧ Below W.heap.size W w') := fun W => HN.out W x hn1
      have hn : ((1 + sumI (l.take i) : Nat) : Int) + (x.need : Int) = ((1 + sumI (l.take (i + 1)) : Nat) : Int) := by rw [sumI_take hx]; omega
      have HNn := Lib.hid hn
      have hb : 1 + sumI (l.take i) + x.need ≤ 2000000 := by
        have := sumI_le (l := l) (i + 1)
        rw [sumI_take hx] at this
        have := HS.out
        omega
      generalize 1 + sumI (l.take i) = m at *
      generalize x.need = nd at *
      clear hc hx hn HN
      go_wp2_with (go_at_call 39; (with_reducible refine (HNx.out _).mono ?_); rintro e w2 ⟨rfl, hb2⟩; have HB2 := Lib.hid (thenBelow (grow HB.out _) hb2); clear hb2)
      go_roundw
      case rel => exact ⟨i + 1, by omega, by first | (rw [← HNn.out]; done) | (rw [← HNn.out]; go_num), by go_num, HB2⟩
      case measure => simp [RowKit.intOf]; omega
    · have e : i = l.length := by omega
      subst e
      have k1 : decide ((l.length : Int) < (l.length : Int)) = false := decide_eq_false (by omega)
      rw [List.take_length]
      go_wp2
      go_ret
      exact ⟨rfl, HB.out⟩

end Go.Proofs.YthihjkdankbnjaaGreat.P10
