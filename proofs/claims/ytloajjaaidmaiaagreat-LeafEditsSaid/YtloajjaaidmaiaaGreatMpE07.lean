/-
  Texts of the proof of SaidEdit9, side by side: U5, U0.
-/
import Derived.Test.YtloajjaaidmaiaaGreatMpE06
import Derived.Test.YtloajjaaidmaiaaGreatMpE04
/-
  Package leaf: Find, by slices.BinarySearchFunc.
-/
namespace Go.Proofs.YtloajjaaidmaiaaGreat.P9
open Go Go.RowKit Go.Lib Go.Proofs.YtloajjaaidmaiaaGreat.PK

theorem findC_any (w : World) (x : It) (k : ByteArray) : Calls Tryz.prog 81 #[x.v, .string k] w fun e w' => e = .returned (.int .i64 (cmpK x.key k)) ∧ Below w.heap.size w w' := by
  have HC := Lib.hid (fun W => Tryz.strings_Compare x.key k W)
  rw [cmpK_eq] at HC
  obtain ⟨key, val, kind⟩ := x
  simp only at HC ⊢
  unfold It.v
  simp only
  generalize cmpK key k = c at *
  go_enter Tryz.func81, Tryz.ntmps81
  go_wp2_with (go_at_call 82; (with_reducible refine (HC.out _).mono ?_); rintro e w2 ⟨rfl, rfl⟩)
  go_ret
  exact ⟨rfl, below_new w _⟩

set_option maxRecDepth 100000 in
set_option maxHeartbeats 1000000 in
theorem search_any (w : World) (v : Value) (l : List It) (k : ByteArray) (h : ItsIn w v l) (hn : l.length ≤ 1000000) (hr : RightI l) :
    Calls Tryz.prog 80 #[v, .string k, .func (.func 81) #[] #[]] w fun e w' => e = .returned (.tuple #[.int .i64 (lowK l k : Nat), .bool (hasK l k)]) ∧ Below w.heap.size w w' := by
  obtain ⟨a, c, rfl⟩ := h.slice
  have HA := Lib.hid (fun (i : Nat) (x : It) (hi : l[i]? = some x) => h.at_ hi)
  obtain ⟨N, hN⟩ : ∃ N, N = l.length := ⟨_, rfl⟩
  have HG := Lib.hid (fun W x => findC_any W x k)
  have HN := Lib.hid hN
  have HR := Lib.hid hr
  have hlen : N ≤ 1000000 := by omega
  rw [← hN]
  clear h hN hn hr
  go_enter Tryz.func80, Tryz.ntmps80
  go_wp2
  go_loopw [9, 10] (fun vl vh wr => ∃ lo hi : Nat, vl = .int .i64 lo ∧ vh = .int .i64 hi ∧ lo ≤ hi ∧ hi ≤ N ∧ Hid (∀ (j : Nat) (y : It), j < lo → l[j]? = some y → kb y.key k = true) ∧ Hid (∀ (j : Nat) (y : It), hi ≤ j → l[j]? = some y → kb y.key k = false) ∧ Hid (Below w.heap.size w wr)) (fun vl vh _ => (RowKit.intOf vh - RowKit.intOf vl).toNat)
  case atStart => exact ⟨0, N, rfl, rfl, Nat.zero_le _, Nat.le_refl _, fun j y hj => absurd hj (Nat.not_lt_zero _), fun j y hj hy => (by have := (List.getElem?_eq_some_iff.1 hy).1; rw [← HN.out] at this; omega), Below.refl _ _⟩
  case round =>
    obtain ⟨lo, hi, rfl, rfl, hlh, hhn, HL, HH, HB⟩ := hrel
    by_cases hlt : lo < hi
    · obtain ⟨x, hx⟩ : ∃ s, l[(lo + hi) / 2]? = some s := ⟨_, List.getElem?_eq_getElem (by have := HN.out; omega)⟩
      obtain ⟨b, off, rfl, hc⟩ := HA.out _ x hx
      obtain ⟨c0, c1, c2⟩ := hc wr HB.out
      have HX := Lib.hid hx
      have hlt2 : (lo : Int) < (hi : Int) := by omega
      have hm : (((lo : Int) + (hi : Int)) / 2) < (N : Int) := by omega
      have hm0 : 0 ≤ (((lo : Int) + (hi : Int)) / 2) := by omega
      have HK : Hid (∀ W, Calls Tryz.prog 81 #[.agg #[.string x.key, .string x.val, .int .i64 x.kind], .string k] W fun e w' => e = .returned (.int .i64 (cmpK x.key k)) ∧ Below W.heap.size W w') := fun W => HG.out W x
      have hcn := cmpK_neg x.key k
      clear hx hc
      generalize cmpK x.key k = cc at *
      cases hq : kb x.key k with
      | true =>
        rw [hq] at hcn
        have HQ := Lib.hid hq
        clear hq
        go_wp2_with (go_at_call 81; (with_reducible refine (HK.out _).mono ?_); rintro e w2 ⟨rfl, hb⟩)
        go_roundw
        case rel =>
          refine ⟨(lo + hi) / 2 + 1, hi, by rw [show ((lo : Int) + (hi : Int)) / 2 + 1 = (((lo + hi) / 2 + 1 : Nat) : Int) by omega], rfl, by omega, hhn, fun j y hj hy => ?_, HH, thenBelow HB.out hb⟩
          by_cases q : j < lo
          · exact HL.out j y q hy
          · by_cases q2 : j = (lo + hi) / 2
            · subst q2
              rw [HX.out] at hy
              obtain rfl := Option.some.inj hy
              exact HQ.out
            · exact kb_trans (rise_at HR.out hy HX.out (by omega)) HQ.out
        case measure => simp [RowKit.intOf]; omega
      | false =>
        rw [hq] at hcn
        have HQ := Lib.hid hq
        clear hq
        go_wp2_with (go_at_call 81; (with_reducible refine (HK.out _).mono ?_); rintro e w2 ⟨rfl, hb⟩)
        go_roundw
        case rel =>
          refine ⟨lo, (lo + hi) / 2, rfl, by rw [show ((lo : Int) + (hi : Int)) / 2 = (((lo + hi) / 2 : Nat) : Int) by omega], by omega, by omega, HL, fun j y hj hy => ?_, thenBelow HB.out hb⟩
          rcases Nat.lt_or_eq_of_le hj with q | q
          · have h9 := rise_at HR.out HX.out hy q
            cases h8 : kb y.key k
            · rfl
            · have h7 := HQ.out
              rw [kb_trans h9 h8] at h7
              cases h7
          · subst q
            rw [HX.out] at hy
            obtain rfl := Option.some.inj hy
            exact HQ.out
        case measure => simp [RowKit.intOf]; omega
    · obtain rfl : lo = hi := by omega
      have hlow : lowK l k = lo := lowK_eq (fun j y hj hy => HL.out j y hj hy) (by have := HN.out; omega) (fun y hy => HH.out lo y (Nat.le_refl _) hy)
      have HW := Lib.hid hlow
      have hlt2 : decide ((lo : Int) < (lo : Int)) = false := decide_eq_false (by omega)
      by_cases hq : lo < N
      · obtain ⟨x, hx⟩ : ∃ s, l[lo]? = some s := ⟨_, List.getElem?_eq_getElem (by have := HN.out; omega)⟩
        obtain ⟨b, off, rfl, hc⟩ := HA.out _ x hx
        obtain ⟨c0, c1, c2⟩ := hc wr HB.out
        have hq2 : (lo : Int) < (N : Int) := by omega
        have hmem : Hid ((cmpK x.key k == 0) = hasK l k) := by
          show _ = _
          cases hh : hasK l k
          · cases hz : (cmpK x.key k == 0)
            · rfl
            · rw [hasK_not] at hh
              exact absurd (mem_of_low (by rw [hlow]; exact hx) ((cmpK_zero _ _).1 hz)) hh
          · obtain ⟨z, hz, hzk⟩ := lowK_hit HR.out (hasK_iff.1 hh)
            rw [hlow, hx] at hz
            obtain rfl := Option.some.inj hz
            exact (cmpK_zero _ _).2 hzk
        have HK : Hid (∀ W, Calls Tryz.prog 81 #[.agg #[.string x.key, .string x.val, .int .i64 x.kind], .string k] W fun e w' => e = .returned (.int .i64 (cmpK x.key k)) ∧ Below W.heap.size W w') := fun W => HG.out W x
        clear hx hc hlow
        generalize cmpK x.key k = cc at *
        go_wp2_with (go_at_call 81; (with_reducible refine (HK.out _).mono ?_); rintro e w2 ⟨rfl, hb⟩)
        go_ret2
        exact ⟨by rw [HW.out, hmem.out]; rfl, thenBelow HB.out hb⟩
      · have hq2 : decide ((lo : Int) < (N : Int)) = false := decide_eq_false (by omega)
        have hnm : Hid (hasK l k = false) := by
          show _ = _
          rw [hasK_not]
          intro hm
          obtain ⟨z, hz, _⟩ := lowK_hit HR.out hm
          have := (List.getElem?_eq_some_iff.1 hz).1
          rw [hlow, ← HN.out] at this
          omega
        obtain rfl : lo = N := by omega
        clear hq hq2 hlow
        go_wp2
        go_ret2
        exact ⟨by rw [HW.out, hnm.out]; rfl, HB.out⟩

theorem find_any (w : World) (v : Value) (l : List It) (k : ByteArray) (h : ItsIn w v l) (hn : l.length ≤ 1000000) (hr : RightI l) :
    Calls Tryz.prog 22 #[v, .string k] w fun e w' => e = .returned (.tuple #[.int .i64 (lowK l k : Nat), .bool (hasK l k)]) ∧ Below w.heap.size w w' := by
  have HS := Lib.hid (search_any w v l k h hn hr)
  generalize lowK l k = n at *
  generalize hasK l k = d at *
  clear h hn hr
  go_enter Tryz.func22, Tryz.ntmps22
  go_wp2_with (go_at_call 80; (with_reducible refine (HS.out).mono ?_); rintro e w2 ⟨rfl, hb⟩; have HB := Lib.hid hb; clear hb)
  go_ret2
  exact ⟨rfl, HB.out⟩

end Go.Proofs.YtloajjaaidmaiaaGreat.P9

/-
  Package leaf: Valid, need, Size.
-/
namespace Go.Proofs.YtloajjaaidmaiaaGreat.P9
open Go Go.RowKit Go.Lib Go.Proofs.YtloajjaaidmaiaaGreat.PK

set_option maxHeartbeats 4000000 in
theorem valid_any (w : World) (x : It) :
    Calls Tryz.prog 18 #[x.v] w fun r w' => r = .returned (.bool x.ok) ∧ Below w.heap.size w w' := by
  obtain ⟨key, val, kind⟩ := x
  by_cases hk : kind = 0 ∨ kind = 1 ∨ kind = 2
  · obtain ⟨d0, e0⟩ : ∃ d, decide (1 ≤ key.size) = d := ⟨_, rfl⟩
    obtain ⟨d1, e1⟩ : ∃ d, decide (key.size ≤ 32) = d := ⟨_, rfl⟩
    obtain ⟨d2, e2⟩ : ∃ d, decide (val.size ≤ 96) = d := ⟨_, rfl⟩
    have e : It.ok ⟨key, val, kind⟩ = (d0 && d1 && d2) := by
      subst e0 e1 e2
      unfold It.ok
      rw [Bool.eq_iff_iff]
      simp only [decide_eq_true_eq, Bool.and_eq_true]
      omega
    have b0x : decide ((1 : Int) ≤ (key.size : Int)) = d0 := by rw [← e0]; exact decide_eq_decide.2 (by omega)
    have b0z : decide (0 < key.size) = d0 := by rw [← e0]; exact decide_eq_decide.2 (by omega)
    have b1x : decide ((key.size : Int) ≤ 32) = d1 := by rw [← e1]; exact decide_eq_decide.2 (by omega)
    have b2x : decide ((val.size : Int) ≤ 96) = d2 := by rw [← e2]; exact decide_eq_decide.2 (by omega)
    rw [e]
    clear e
    rcases hk with rfl | rfl | rfl <;> cases d0 <;> cases d1 <;> cases d2
    all_goals
      unfold It.v
      go_enter Tryz.func18, Tryz.ntmps18
      go_wp2
      go_ret
      exact ⟨rfl, below_new _ _⟩
  · have e : It.ok ⟨key, val, kind⟩ = false := decide_eq_false (fun h => hk (by simp only at h; omega))
    have k0 : (kind == 0) = false := by simp; omega
    have k1 : (kind == 1) = false := by simp; omega
    have k2 : (kind == 2) = false := by simp; omega
    rw [e]
    clear e hk
    unfold It.v
    go_enter Tryz.func18, Tryz.ntmps18
    go_wp2
    go_ret
    exact ⟨rfl, below_new _ _⟩

theorem need_any (w : World) (x : It) (h : x.need ≤ 1000000) :
    Calls Tryz.prog 43 #[x.v] w fun r w' => r = .returned (.int .i64 (x.need : Nat)) ∧ Below w.heap.size w w' := by
  obtain ⟨key, val, kind⟩ := x
  unfold It.need at *
  simp only at h ⊢
  have h1 : 5 + key.size ≤ 1000000 := by omega
  unfold It.v
  go_enter Tryz.func43, Tryz.ntmps43
  go_wp2
  go_ret
  exact ⟨by first | rfl | simp, below_new _ _⟩

theorem need_le {l : List It} {i : Nat} {x : It} (h : l[i]? = some x) : x.need ≤ sumI l := by
  have h1 := sumI_take h
  have h2 := sumI_le (l := l) (i + 1)
  omega

set_option maxRecDepth 100000 in
theorem size_any (w : World) (v : Value) (l : List It) (h : ItsIn w v l) (hs : sumI l ≤ 1000000) :
    Calls Tryz.prog 15 #[v] w fun e w' => e = .returned (.int .i64 ((1 + sumI l : Nat) : Int)) ∧ Below w.heap.size w w' := by
  obtain ⟨a, c, rfl⟩ := h.slice
  have hl := h.len
  have HA := Lib.hid (fun (i : Nat) (x : It) (hi : l[i]? = some x) => h.at_ hi)
  have HN := Lib.hid (fun W x hx => need_any W x hx)
  have HS := Lib.hid hs
  clear h hs
  go_enter Tryz.func15, Tryz.ntmps15
  go_wp2
  go_loopw [3, 8] (fun vn vi wr => ∃ i : Nat, i ≤ l.length ∧ vn = .int .i64 ((1 + sumI (l.take i) : Nat) : Int) ∧ vi = .int .i64 i ∧ Hid (Below w.heap.size w wr)) (fun _ vi _ => l.length - (RowKit.intOf vi).toNat)
  case atStart => exact ⟨0, Nat.zero_le _, rfl, rfl, Below.refl _ _⟩
  case round =>
    obtain ⟨i, hi, rfl, rfl, HB⟩ := hrel
    by_cases hlt : i < l.length
    · obtain ⟨x, hx⟩ : ∃ x, l[i]? = some x := ⟨_, List.getElem?_eq_getElem hlt⟩
      obtain ⟨b, off, rfl, hc⟩ := HA.out i x hx
      obtain ⟨c0, c1, c2⟩ := hc wr HB.out
      have k1 : decide ((i : Int) < (l.length : Int)) = true := decide_eq_true (by omega)
      have k2 : (i : Int) < (l.length : Int) := by omega
      have k3 : (0 : Int) ≤ (i : Int) := by omega
      have hn1 : x.need ≤ 1000000 := Nat.le_trans (need_le hx) HS.out
      have HNx : Hid (∀ W, Calls Tryz.prog 43 #[.agg #[.string x.key, .string x.val, .int .i64 x.kind]] W fun r w' => r = .returned (.int .i64 (x.need : Nat)) ∧ Below W.heap.size W w') := fun W => HN.out W x hn1
      have hn : ((1 + sumI (l.take i) : Nat) : Int) + (x.need : Int) = ((1 + sumI (l.take (i + 1)) : Nat) : Int) := by rw [sumI_take hx]; omega
      have HNn := Lib.hid hn
      have hb : 1 + sumI (l.take i) + x.need ≤ 2000000 := by
        have := sumI_le (l := l) (i + 1)
        rw [sumI_take hx] at this
        have := HS.out
        omega
      generalize 1 + sumI (l.take i) = m at *
      generalize x.need = nd at *
      clear hc hx hn HN
      go_wp2_with (go_at_call 43; (with_reducible refine (HNx.out _).mono ?_); rintro e w2 ⟨rfl, hb2⟩; have HB2 := Lib.hid (thenBelow (grow HB.out _) hb2); clear hb2)
      go_roundw
      case rel => exact ⟨i + 1, by omega, by first | (rw [← HNn.out]; done) | (rw [← HNn.out]; go_num), by go_num, HB2⟩
      case measure => simp [RowKit.intOf]; omega
    · have e : i = l.length := by omega
      subst e
      have k1 : decide ((l.length : Int) < (l.length : Int)) = false := decide_eq_false (by omega)
      rw [List.take_length]
      go_wp2
      go_ret
      exact ⟨rfl, HB.out⟩

end Go.Proofs.YtloajjaaidmaiaaGreat.P9
