/-
  slices.BinarySearchFunc at rows of pages, as the program calls it. (The program's list of free ids.)
-/
import Derived.Test.YtoiaamijjcjjiaaG3
namespace Go.Proofs.Ytoiaamijjcjjiaa.P7
open Go Go.RowKit Go.Lib Go.Proofs.Ytoiaamijjcjjiaa.PK

theorem ids_at {S : List Sp} {k : Nat} {s : Sp} (h : S[k]? = some s) : (idsS S)[k]? = some s.id := by unfold idsS; rw [List.getElem?_map, h]; rfl
theorem ids_len (S : List Sp) : (idsS S).length = S.length := by simp [idsS]
set_option maxRecDepth 100000 in
set_option maxHeartbeats 1000000 in
theorem search_any (w : World) (lo0 : Nat) (sv : Value) (S : List Sp) (id : Int) (h : (sRow sv S).At w lo0) (hn : S.length ≤ 100000) (hr : Rising (idsS S)) :
    Calls Try.prog 79 #[sv, .int .i64 id, .func (.func 80) #[] #[]] w fun e w' => e = .returned (.tuple #[.int .i64 (lowN (idsS S) id : Nat), .bool (decide (id ∈ idsS S))]) ∧ Below w.heap.size w w' := by
  obtain ⟨N, hN⟩ : ∃ N, N = S.length := ⟨_, rfl⟩
  obtain ⟨a, c, rfl, HC⟩ : ∃ a c, sv = .slice a N c ∧ Hid (∀ W, Below w.heap.size w W → ∀ (k : Nat) (s : Sp), S[k]? = some s → ∃ g, a = some ⟨g, 0, none⟩ ∧ W.cell? ⟨g, k * 3, none⟩ = some (.int .i64 s.id) ∧ W.cell? ⟨g, k * 3 + 1, none⟩ = some (.bool s.fr) ∧ W.cell? ⟨g, k * 3 + 2, none⟩ = some (.int .i64 s.tx)) := by
    rcases h.slice with ⟨e, h0, _⟩ | ⟨g, cap, e, hb, _⟩
    · have h0' : S.length = 0 := h0
      refine ⟨none, 0, by rw [hN, h0']; exact e, fun W _ k s hk => ?_⟩
      have := (List.getElem?_eq_some_iff.1 hk).1
      omega
    · refine ⟨_, cap, by rw [hN]; exact e, fun W hW k s hk => ⟨g, rfl, ?_⟩⟩
      obtain ⟨h1, h2, h3⟩ := spFlat_at hk
      have hW2 := owns_below h hW
      exact ⟨Row.At.cell hW2 hb h1, Row.At.cell hW2 hb h2, Row.At.cell hW2 hb h3⟩
  have HG := Lib.hid (fun W s => giveC_any W s id)
  have HN := Lib.hid hN
  have HR := Lib.hid hr
  have hlen : N ≤ 100000 := by omega
  clear h hN hn hr
  go_enter Try.func79, Try.ntmps79
  go_wp2
  go_loopw [9, 10] (fun vl vh wr => ∃ lo hi : Nat, vl = .int .i64 lo ∧ vh = .int .i64 hi ∧ lo ≤ hi ∧ hi ≤ N ∧ Hid (∀ (j : Nat) (y : Int), j < lo → (idsS S)[j]? = some y → y < id) ∧ Hid (∀ (j : Nat) (y : Int), hi ≤ j → (idsS S)[j]? = some y → id ≤ y) ∧ Hid (Below w.heap.size w wr)) (fun vl vh _ => (RowKit.intOf vh - RowKit.intOf vl).toNat)
  case atStart => exact ⟨0, N, rfl, rfl, Nat.zero_le _, Nat.le_refl _, fun j y hj => absurd hj (Nat.not_lt_zero _), fun j y hj hy => (by have := (List.getElem?_eq_some_iff.1 hy).1; rw [ids_len, ← HN.out] at this; omega), Below.refl _ _⟩
  case round =>
    obtain ⟨lo, hi, rfl, rfl, hlh, hhn, HL, HH, HB⟩ := hrel
    by_cases hlt : lo < hi
    · obtain ⟨s, hs⟩ : ∃ s, S[(lo + hi) / 2]? = some s := ⟨_, List.getElem?_eq_getElem (by have := HN.out; omega)⟩
      obtain ⟨g, rfl, c1, c2, c3⟩ := HC.out wr HB.out _ s hs
      have HS := Lib.hid hs
      have hi1 := HB.out.size
      have hlt2 : (lo : Int) < (hi : Int) := by omega
      have hm : (((lo : Int) + (hi : Int)) / 2) < (N : Int) := by omega
      have hm0 : 0 ≤ (((lo : Int) + (hi : Int)) / 2) := by omega
      clear hs
      by_cases hc : s.id < id
      · have HK : Hid (∀ W, Calls Try.prog 80 #[spVal s, .int .i64 id] W fun e w' => e = .returned (.int .i64 (-1)) ∧ Below W.heap.size W w') := fun W => (HG.out W s).mono fun e w' ⟨h1, h2⟩ => ⟨by rw [h1]; unfold cmpI; rw [if_pos hc], h2⟩
        go_wp2_with (go_at_call 80; (with_reducible refine (HK.out _).mono ?_); rintro e w2 ⟨rfl, hb⟩)
        go_roundw
        case rel =>
          refine ⟨(lo + hi) / 2 + 1, hi, by rw [show ((lo : Int) + (hi : Int)) / 2 + 1 = (((lo + hi) / 2 + 1 : Nat) : Int) by omega], rfl, by omega, hhn, fun j y hj hy => ?_, HH, thenBelow HB.out hb⟩
          by_cases q : j < lo
          · exact HL.out j y q hy
          · by_cases q2 : j = (lo + hi) / 2
            · subst q2
              rw [ids_at HS.out] at hy
              cases hy
              exact hc
            · obtain ⟨t, ht⟩ : ∃ t, S[j]? = some t := ⟨_, List.getElem?_eq_getElem (by have := (List.getElem?_eq_some_iff.1 hy).1; rw [ids_len] at this; exact this)⟩
              have h9 := rise_at HR.out ht HS.out (by omega)
              rw [ids_at ht] at hy
              cases hy
              omega
        case measure => simp [RowKit.intOf]; omega
      · obtain ⟨c0, hc0⟩ : ∃ c0, c0 = cmpI s.id id := ⟨_, rfl⟩
        have hc1 : decide (c0 < 0) = false := by rw [hc0]; unfold cmpI; rw [if_neg hc]; split <;> rfl
        have HK : Hid (∀ W, Calls Try.prog 80 #[spVal s, .int .i64 id] W fun e w' => e = .returned (.int .i64 c0) ∧ Below W.heap.size W w') := fun W => (HG.out W s).mono fun e w' ⟨h1, h2⟩ => ⟨by rw [h1, hc0], h2⟩
        clear hc0
        go_wp2_with (go_at_call 80; (with_reducible refine (HK.out _).mono ?_); rintro e w2 ⟨rfl, hb⟩)
        go_roundw
        case rel =>
          refine ⟨lo, (lo + hi) / 2, rfl, by rw [show ((lo : Int) + (hi : Int)) / 2 = (((lo + hi) / 2 : Nat) : Int) by omega], by omega, by omega, HL, fun j y hj hy => ?_, thenBelow HB.out hb⟩
          obtain ⟨t, ht⟩ : ∃ t, S[j]? = some t := ⟨_, List.getElem?_eq_getElem (by have := (List.getElem?_eq_some_iff.1 hy).1; rw [ids_len] at this; exact this)⟩
          rw [ids_at ht] at hy
          cases hy
          rcases Nat.lt_or_eq_of_le hj with q | q
          · have h9 := rise_at HR.out HS.out ht q
            omega
          · subst q
            rw [HS.out] at ht
            cases ht
            omega
        case measure => simp [RowKit.intOf]; omega
    · obtain rfl : lo = hi := by omega
      have hlow : lowN (idsS S) id = lo := low_eq (fun j y hj hy => HL.out j y hj hy) (by rw [ids_len]; have := HN.out; omega) (fun y hy => by have := HH.out lo y (Nat.le_refl _) hy; omega)
      have HW := Lib.hid hlow
      have hlt2 : decide ((lo : Int) < (lo : Int)) = false := decide_eq_false (by omega)
      clear hlow
      by_cases hq : lo < N
      · obtain ⟨s, hs⟩ : ∃ s, S[lo]? = some s := ⟨_, List.getElem?_eq_getElem (by have := HN.out; omega)⟩
        obtain ⟨g, rfl, c1, c2, c3⟩ := HC.out wr HB.out _ s hs
        have hi1 := HB.out.size
        have hq2 : (lo : Int) < (N : Int) := by omega
        have hns := HH.out lo s.id (Nat.le_refl _) (ids_at hs)
        have hmem : Hid (decide (id ∈ idsS S) = (cmpI s.id id == 0)) := by
          have hlo := HW.out
          by_cases e : s.id = id
          · show _ = _
            rw [decide_eq_true (show id ∈ idsS S from e ▸ List.mem_of_getElem? (ids_at hs)), e]
            unfold cmpI
            rw [if_neg (by omega), if_neg (by omega)]
            rfl
          · have hnm : id ∉ idsS S := fun hm => by
              have h9 := low_hit HR.out hm
              rw [hlo, ids_at hs] at h9
              cases h9
              exact e rfl
            show _ = _
            rw [decide_eq_false hnm]
            unfold cmpI
            rw [if_neg (by omega), if_pos (by omega)]
            rfl
        obtain ⟨c0, hc0⟩ : ∃ c0, c0 = cmpI s.id id := ⟨_, rfl⟩
        have HK : Hid (∀ W, Calls Try.prog 80 #[spVal s, .int .i64 id] W fun e w' => e = .returned (.int .i64 c0) ∧ Below W.heap.size W w') := fun W => (HG.out W s).mono fun e w' ⟨h1, h2⟩ => ⟨by rw [h1, hc0], h2⟩
        rw [← hc0] at hmem
        clear hc0 hs hns
        go_wp2_with (go_at_call 80; (with_reducible refine (HK.out _).mono ?_); rintro e w2 ⟨rfl, hb⟩)
        go_ret2
        exact ⟨by rw [HW.out, hmem.out]; rfl, thenBelow HB.out hb⟩
      · have hq2 : decide ((lo : Int) < (N : Int)) = false := decide_eq_false (by omega)
        have hnm : Hid (decide (id ∈ idsS S) = false) := decide_eq_false fun hm => by
          have h9 := low_hit HR.out hm
          have := (List.getElem?_eq_some_iff.1 h9).1
          rw [ids_len, HW.out, ← HN.out] at this
          omega
        obtain rfl : lo = N := by omega
        clear hq hq2
        go_wp2
        go_ret2
        exact ⟨by rw [HW.out, hnm.out]; rfl, HB.out⟩

end Go.Proofs.Ytoiaamijjcjjiaa.P7
