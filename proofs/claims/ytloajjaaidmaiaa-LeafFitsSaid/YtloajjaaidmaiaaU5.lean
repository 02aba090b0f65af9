/-
  Package leaf: Find, by slices.BinarySearchFunc.
-/
import Derived.Test.YtloajjaaidmaiaaU4
import Derived.Test.YtloajjaaidmaiaaShelf
namespace Go.Proofs.Ytloajjaaidmaiaa.P9
open Go Go.RowKit Go.Lib Go.Proofs.Ytloajjaaidmaiaa.PK

theorem findC_any (w : World) (x : It) (k : ByteArray) : Calls Try.prog 22 #[x.v, .string k] w fun e w' => e = .returned (.int .i64 (cmpK x.key k)) ∧ Below w.heap.size w w' := by
  have HC := Lib.hid (fun W => Try.strings_Compare x.key k W)
  rw [cmpK_eq] at HC
  obtain ⟨key, val, kind⟩ := x
  simp only at HC ⊢
  unfold It.v
  simp only
  generalize cmpK key k = c at *
  go_enter Try.func22, Try.ntmps22
  go_wp2_with (go_at_call 23; (with_reducible refine (HC.out _).mono ?_); rintro e w2 ⟨rfl, rfl⟩)
  go_ret
  exact ⟨rfl, below_new w _⟩

set_option maxRecDepth 100000 in
set_option maxHeartbeats 1000000 in
theorem search_any (w : World) (v : Value) (l : List It) (k : ByteArray) (h : ItsIn w v l) (hn : l.length ≤ 1000000) (hr : RightI l) :
    Calls Try.prog 21 #[v, .string k, .func (.func 22) #[] #[]] w fun e w' => e = .returned (.tuple #[.int .i64 (lowK l k : Nat), .bool (hasK l k)]) ∧ Below w.heap.size w w' := by
  obtain ⟨a, c, rfl⟩ := h.slice
  have HA := Lib.hid (fun (i : Nat) (x : It) (hi : l[i]? = some x) => h.at_ hi)
  obtain ⟨N, hN⟩ : ∃ N, N = l.length := ⟨_, rfl⟩
  have HG := Lib.hid (fun W x => findC_any W x k)
  have HN := Lib.hid hN
  have HR := Lib.hid hr
  have hlen : N ≤ 1000000 := by omega
  rw [← hN]
  clear h hN hn hr
  go_enter Try.func21, Try.ntmps21
  go_wp2
  go_loopw [9, 10] (fun vl vh wr => ∃ lo hi : Nat, vl = .int .i64 lo ∧ vh = .int .i64 hi ∧ lo ≤ hi ∧ hi ≤ N ∧ Hid (∀ (j : Nat) (y : It), j < lo → l[j]? = some y → kb y.key k = true) ∧ Hid (∀ (j : Nat) (y : It), hi ≤ j → l[j]? = some y → kb y.key k = false) ∧ Hid (Below w.heap.size w wr)) (fun vl vh _ => (RowKit.intOf vh - RowKit.intOf vl).toNat)
  case atStart => exact ⟨0, N, rfl, rfl, Nat.zero_le _, Nat.le_refl _, fun j y hj => absurd hj (Nat.not_lt_zero _), fun j y hj hy => (by have := (List.getElem?_eq_some_iff.1 hy).1; rw [← HN.out] at this; omega), Below.refl _ _⟩
  case round =>
    obtain ⟨lo, hi, rfl, rfl, hlh, hhn, HL, HH, HB⟩ := hrel
    by_cases hlt : lo < hi
    · obtain ⟨x, hx⟩ : ∃ s, l[(lo + hi) / 2]? = some s := ⟨_, List.getElem?_eq_getElem (by have := HN.out; omega)⟩
      obtain ⟨b, off, rfl, hc⟩ := HA.out _ x hx
      obtain ⟨c0, c1, c2⟩ := hc wr HB.out
      have HX := Lib.hid hx
      have hlt2 : (lo : Int) < (hi : Int) := by omega
      have hm : (((lo : Int) + (hi : Int)) / 2) < (N : Int) := by omega
      have hm0 : 0 ≤ (((lo : Int) + (hi : Int)) / 2) := by omega
      have HK : Hid (∀ W, Calls Try.prog 22 #[.agg #[.string x.key, .string x.val, .int .i64 x.kind], .string k] W fun e w' => e = .returned (.int .i64 (cmpK x.key k)) ∧ Below W.heap.size W w') := fun W => HG.out W x
      have hcn := cmpK_neg x.key k
      clear hx hc
      generalize cmpK x.key k = cc at *
      cases hq : kb x.key k with
      | true =>
        rw [hq] at hcn
        have HQ := Lib.hid hq
        clear hq
        go_wp2_with (go_at_call 22; (with_reducible refine (HK.out _).mono ?_); rintro e w2 ⟨rfl, hb⟩)
        go_roundw
        case rel =>
          refine ⟨(lo + hi) / 2 + 1, hi, by rw [show ((lo : Int) + (hi : Int)) / 2 + 1 = (((lo + hi) / 2 + 1 : Nat) : Int) by omega], rfl, by omega, hhn, fun j y hj hy => ?_, HH, thenBelow HB.out hb⟩
          by_cases q : j < lo
          · exact HL.out j y q hy
          · by_cases q2 : j = (lo + hi) / 2
            · subst q2
              rw [HX.out] at hy
              obtain rfl := Option.some.inj hy
              exact HQ.out
            · exact kb_trans (rise_at HR.out hy HX.out (by omega)) HQ.out
        case measure => simp [RowKit.intOf]; omega
      | false =>
        rw [hq] at hcn
        have HQ := Lib.hid hq
        clear hq
        go_wp2_with (go_at_call 22; (with_reducible refine (HK.out _).mono ?_); rintro e w2 ⟨rfl, hb⟩)
        go_roundw
        case rel =>
          refine ⟨lo, (lo + hi) / 2, rfl, by rw [show ((lo : Int) + (hi : Int)) / 2 = (((lo + hi) / 2 : Nat) : Int) by omega], by omega, by omega, HL, fun j y hj hy => ?_, thenBelow HB.out hb⟩
          rcases Nat.lt_or_eq_of_le hj with q | q
          · have h9 := rise_at HR.out HX.out hy q
            cases h8 : kb y.key k
            · rfl
            · have h7 := HQ.out
              rw [kb_trans h9 h8] at h7
              cases h7
          · subst q
            rw [HX.out] at hy
            obtain rfl := Option.some.inj hy
            exact HQ.out
        case measure => simp [RowKit.intOf]; omega
    · obtain rfl : lo = hi := by omega
      have hlow : lowK l k = lo := lowK_eq (fun j y hj hy => HL.out j y hj hy) (by have := HN.out; omega) (fun y hy => HH.out lo y (Nat.le_refl _) hy)
      have HW := Lib.hid hlow
      have hlt2 : decide ((lo : Int) < (lo : Int)) = false := decide_eq_false (by omega)
      by_cases hq : lo < N
      · obtain ⟨x, hx⟩ : ∃ s, l[lo]? = some s := ⟨_, List.getElem?_eq_getElem (by have := HN.out; omega)⟩
        obtain ⟨b, off, rfl, hc⟩ := HA.out _ x hx
        obtain ⟨c0, c1, c2⟩ := hc wr HB.out
        have hq2 : (lo : Int) < (N : Int) := by omega
        have hmem : Hid ((cmpK x.key k == 0) = hasK l k) := by
          show _ = _
          cases hh : hasK l k
          · cases hz : (cmpK x.key k == 0)
            · rfl
            · rw [hasK_not] at hh
              exact absurd (mem_of_low (by rw [hlow]; exact hx) ((cmpK_zero _ _).1 hz)) hh
          · obtain ⟨z, hz, hzk⟩ := lowK_hit HR.out (hasK_iff.1 hh)
            rw [hlow, hx] at hz
            obtain rfl := Option.some.inj hz
            exact (cmpK_zero _ _).2 hzk
        have HK : Hid (∀ W, Calls Try.prog 22 #[.agg #[.string x.key, .string x.val, .int .i64 x.kind], .string k] W fun e w' => e = .returned (.int .i64 (cmpK x.key k)) ∧ Below W.heap.size W w') := fun W => HG.out W x
        clear hx hc hlow
        generalize cmpK x.key k = cc at *
        go_wp2_with (go_at_call 22; (with_reducible refine (HK.out _).mono ?_); rintro e w2 ⟨rfl, hb⟩)
        go_ret2
        exact ⟨by rw [HW.out, hmem.out]; rfl, thenBelow HB.out hb⟩
      · have hq2 : decide ((lo : Int) < (N : Int)) = false := decide_eq_false (by omega)
        have hnm : Hid (hasK l k = false) := by
          show _ = _
          rw [hasK_not]
          intro hm
          obtain ⟨z, hz, _⟩ := lowK_hit HR.out hm
          have := (List.getElem?_eq_some_iff.1 hz).1
          rw [hlow, ← HN.out] at this
          omega
        obtain rfl : lo = N := by omega
        clear hq hq2 hlow
        go_wp2
        go_ret2
        exact ⟨by rw [HW.out, hnm.out]; rfl, HB.out⟩

theorem find_any (w : World) (v : Value) (l : List It) (k : ByteArray) (h : ItsIn w v l) (hn : l.length ≤ 1000000) (hr : RightI l) :
    Calls Try.prog 11 #[v, .string k] w fun e w' => e = .returned (.tuple #[.int .i64 (lowK l k : Nat), .bool (hasK l k)]) ∧ Below w.heap.size w w' := by
  have HS := Lib.hid (search_any w v l k h hn hr)
  generalize lowK l k = n at *
  generalize hasK l k = d at *
  clear h hn hr
  go_enter Try.func11, Try.ntmps11
  go_wp2_with (go_at_call 21; (with_reducible refine (HS.out).mono ?_); rintro e w2 ⟨rfl, hb⟩; have HB := Lib.hid hb; clear hb)
  go_ret2
  exact ⟨rfl, HB.out⟩

end Go.Proofs.Ytloajjaaidmaiaa.P9
