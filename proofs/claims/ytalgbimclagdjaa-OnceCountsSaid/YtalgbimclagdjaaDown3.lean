/-
  container/heap over package once's queue: down.
-/
import Derived.Test.YtalgbimclagdjaaUp3
namespace Go.Proofs.Ytalgbimclagdjaa.P3
open Go Go.RowKit Go.Lib Go.Maps Go.ChangeMaps Go.MapKept

/-- what down leaves: it tells whether it moved something -/
def Downed (w : World) (b : Nat) (cb : Array Value) (r m cap N n i : Nat) (ps : PinL) (e : Ending) (w' : World) : Prop :=
  ∃ ps', Sift w b cb r m cap N n ps ps' w' ∧ ((e = .returned (.bool true) ∧ Ord (num ps') n) ∨ (e = .returned (.bool false) ∧ UpTo (num ps') n i))

theorem stop_leaf {f : Nat → Int} {n k : Nat} (h : n ≤ 2 * k + 1) : ∀ c, 0 < c → c < n → par c = k → f k ≤ f c := fun c h0 hc hp => by unfold par at hp; omega
theorem stop_min {f : Nat → Int} {n k j : Nat} (hj : ∀ c, 0 < c → c < n → par c = k → f j ≤ f c) (h : ¬ f j < f k) : ∀ c, 0 < c → c < n → par c = k → f k ≤ f c := fun c h0 hc hp => by
  have := hj c h0 hc hp; omega
theorem min_right {f : Nat → Int} {n k : Nat} (h : f (2 * k + 2) < f (2 * k + 1)) : ∀ c, 0 < c → c < n → par c = k → f (2 * k + 2) ≤ f c := fun c h0 hc hp => by
  rcases (show c = 2 * k + 1 ∨ c = 2 * k + 2 by unfold par at hp; omega) with rfl | rfl <;> omega
theorem min_left {f : Nat → Int} {n k : Nat} (h : ¬ (2 * k + 2 < n ∧ f (2 * k + 2) < f (2 * k + 1))) : ∀ c, 0 < c → c < n → par c = k → f (2 * k + 1) ≤ f c := fun c h0 hc hp => by
  rcases (show c = 2 * k + 1 ∨ c = 2 * k + 2 by unfold par at hp; omega) with rfl | rfl <;> omega

/-- the loop's end -/
theorem down_end {w wr : World} {b : Nat} {cb : Array Value} {r m cap N n i k : Nat} {ps ps' : PinL} {e : Ending} (hs : Sift w b cb r m cap N n ps ps' wr) (hH : Hole (num ps') n k) (hm : i = k ∨ (i < k ∧ num ps' (par k) ≤ num ps' k))
    (hc : ∀ c, 0 < c → c < n → par c = k → num ps' k ≤ num ps' c) (he : e = .returned (.bool (decide (i < k)))) : Downed w b cb r m cap N n i ps e wr := by
  have hu := down_stop hH hc
  refine ⟨ps', hs, ?_⟩
  rcases hm with rfl | ⟨h1, h2⟩
  · right
    rw [he, decide_eq_false (by omega)]
    exact ⟨rfl, hu⟩
  · left
    rw [he, decide_eq_true (by omega)]
    exact ⟨rfl, up_done hu h2⟩

set_option maxRecDepth 100000 in
set_option maxHeartbeats 4000000 in
theorem hdown (w : World) {b : Nat} {cb : Array Value} {r m cap N n : Nat} {ps : PinL} {D : DataW Unit} (h : QIs w b cb r m cap N ps D) (i : Nat) (hi : i < n) (hn : n ≤ ps.length) (hu : Hole (num ps) n i) :
    Calls Try.prog 59 #[.iface 82 (.pointer (some ⟨b, 3, none⟩)), .int .i64 i, .int .i64 n] w (Downed w b cb r m cap N n i ps) := by
  have hroom := h.room
  have hlen := h.len
  have HS := Lib.hid (Sift.refl (n := n) h)
  have HU := Lib.hid hu
  clear h hu
  have m1 := mLess
  have m2 := mSwap
  go_enter Try.func59, Try.ntmps59
  go_wp2
  go_loopw [7] (fun v wr => ∃ (k : Nat) (ps' : PinL), v = .int .i64 k ∧ k < n ∧ Sift w b cb r m cap N n ps ps' wr ∧ Hid (Hole (num ps') n k) ∧ Hid (i = k ∨ (i < k ∧ num ps' (par k) ≤ num ps' k))) (fun v _ => n - (RowKit.intOf v).toNat)
  case atStart => exact ⟨i, ps, rfl, hi, HS.out, HU.out, .inl rfl⟩
  case round =>
    clear HS HU
    obtain ⟨k, ps', rfl, hk, hs, hH, hM⟩ := hrel
    have hl := hs.len
    have b0 : (0 : Int) ≤ (k : Int) := by omega
    have b1 : (k : Int) ≤ 1000000 := by omega
    have b2 : (n : Int) ≤ 1000000 := by omega
    by_cases c1 : 2 * k + 1 < n
    · obtain ⟨D', hq0⟩ := hs.q
      have d2 : decide ((n : Int) ≤ 2 * (k : Int) + 1) = false := decide_eq_false (by omega)
      have d3 : decide (2 * (k : Int) + 1 < 0) = false := decide_eq_false (by omega)
      have d4 : (0 : Int) ≤ 2 * (k : Int) + 1 := by omega
      have c1a : 2 * (k : Int) + 1 < (n : Int) := by omega
      have k1 : ((2 * k + 1 : Nat) : Int) = 2 * (k : Int) + 1 := by omega
      have k2 : ((2 * k + 2 : Nat) : Int) = 2 * (k : Int) + 1 + 1 := by omega
      have K1 := Lib.hid k1
      have K2 := Lib.hid k2
      have HQ := Lib.hid hq0
      clear k1 k2 hq0
      by_cases c2 : 2 * k + 2 < n
      · have f3 : 2 * (k : Int) + 1 + 1 < (n : Int) := by omega
        have L1 := fun W (h : QIs W b cb r m cap N ps' D') => qless W h (2 * k + 2) (2 * k + 1) (by omega) (by omega)
        rw [K1.out, K2.out] at L1
        by_cases t2 : num ps' (2 * k + 2) < num ps' (2 * k + 1)
        · rw [decide_eq_true t2] at L1
          have HL1 := Lib.hid L1
          have HT2 := Lib.hid t2
          clear L1 t2
          have L2 := fun W (h : QIs W b cb r m cap N ps' D') => qless W h (2 * k + 2) k (by omega) (by omega)
          have S2 := fun W (h : QIs W b cb r m cap N ps' D') => qswap W h k (2 * k + 2) (by omega) (by omega) (by omega)
          rw [K2.out] at L2 S2
          by_cases t3 : num ps' (2 * k + 2) < num ps' k
          · rw [decide_eq_true t3] at L2
            have HL2 := Lib.hid L2
            have HS2 := Lib.hid S2
            have HT := Lib.hid t3
            clear L2 S2 t3
            go_wp2_with (go_at_call 93; (with_reducible refine (HL1.out _ HQ.out).mono ?_); rintro e w' ⟨rfl, nq, rfl⟩; have hq1 := Lib.hid (HQ.out.below (below_drewN wr nq)))
            go_wp2_with (go_at_call 93; (with_reducible refine (HL2.out _ hq1.out).mono ?_); rintro e w' ⟨rfl, nq2, rfl⟩; have hq2 := Lib.hid (HQ.out.below (below_drewN wr (nq + nq2))); have hs2 := hs.below (below_drewN wr (nq + nq2)))
            go_wp2_with (go_at_call 96; (with_reducible refine (HS2.out _ hq2.out).mono ?_); rintro e w' ⟨rfl, hD, hf⟩)
            go_roundw
            case rel => exact ⟨2 * k + 2, _, by rw [K2.out], by omega, hs2.step hk (by omega) hn (by omega) hD hf, by
              show Hole _ _ _
              rw [swp_swf ps' k (2 * k + 2) (by omega) (by omega)]
              exact (down_step hH.out (by omega) (by omega) (by unfold par; omega) HT.out (min_right HT2.out)).1, .inr ⟨by rcases hM.out with h | ⟨h, _⟩ <;> omega, by
              rw [swp_swf ps' k (2 * k + 2) (by omega) (by omega)]
              exact (down_step hH.out (by omega) (by omega) (by unfold par; omega) HT.out (min_right HT2.out)).2⟩⟩
            case measure => simp [RowKit.intOf]; omega
          · rw [decide_eq_false t3] at L2
            have HL2 := Lib.hid L2
            have HS2 := Lib.hid S2
            have HT := Lib.hid t3
            clear L2 S2 t3
            go_wp2_with (go_at_call 93; (with_reducible refine (HL1.out _ HQ.out).mono ?_); rintro e w' ⟨rfl, nq, rfl⟩; have hq1 := Lib.hid (HQ.out.below (below_drewN wr nq)))
            go_wp2_with (go_at_call 93; (with_reducible refine (HL2.out _ hq1.out).mono ?_); rintro e w' ⟨rfl, nq2, rfl⟩; have hq2 := Lib.hid (HQ.out.below (below_drewN wr (nq + nq2))); have hs2 := hs.below (below_drewN wr (nq + nq2)))
            go_ret
            exact down_end hs2 hH.out hM.out (stop_min (min_right HT2.out) (by have := HT.out; omega)) rfl
        · rw [decide_eq_false t2] at L1
          have HL1 := Lib.hid L1
          have HT2 := Lib.hid t2
          clear L1 t2
          have L2 := fun W (h : QIs W b cb r m cap N ps' D') => qless W h (2 * k + 1) k (by omega) (by omega)
          have S2 := fun W (h : QIs W b cb r m cap N ps' D') => qswap W h k (2 * k + 1) (by omega) (by omega) (by omega)
          rw [K1.out] at L2 S2
          by_cases t3 : num ps' (2 * k + 1) < num ps' k
          · rw [decide_eq_true t3] at L2
            have HL2 := Lib.hid L2
            have HS2 := Lib.hid S2
            have HT := Lib.hid t3
            clear L2 S2 t3
            go_wp2_with (go_at_call 93; (with_reducible refine (HL1.out _ HQ.out).mono ?_); rintro e w' ⟨rfl, nq, rfl⟩; have hq1 := Lib.hid (HQ.out.below (below_drewN wr nq)))
            go_wp2_with (go_at_call 93; (with_reducible refine (HL2.out _ hq1.out).mono ?_); rintro e w' ⟨rfl, nq2, rfl⟩; have hq2 := Lib.hid (HQ.out.below (below_drewN wr (nq + nq2))); have hs2 := hs.below (below_drewN wr (nq + nq2)))
            go_wp2_with (go_at_call 96; (with_reducible refine (HS2.out _ hq2.out).mono ?_); rintro e w' ⟨rfl, hD, hf⟩)
            go_roundw
            case rel => exact ⟨2 * k + 1, _, by rw [K1.out], by omega, hs2.step hk (by omega) hn (by omega) hD hf, by
              show Hole _ _ _
              rw [swp_swf ps' k (2 * k + 1) (by omega) (by omega)]
              exact (down_step hH.out (by omega) (by omega) (by unfold par; omega) HT.out (min_left (by have := HT2.out; omega))).1, .inr ⟨by rcases hM.out with h | ⟨h, _⟩ <;> omega, by
              rw [swp_swf ps' k (2 * k + 1) (by omega) (by omega)]
              exact (down_step hH.out (by omega) (by omega) (by unfold par; omega) HT.out (min_left (by have := HT2.out; omega))).2⟩⟩
            case measure => simp [RowKit.intOf]; omega
          · rw [decide_eq_false t3] at L2
            have HL2 := Lib.hid L2
            have HS2 := Lib.hid S2
            have HT := Lib.hid t3
            clear L2 S2 t3
            go_wp2_with (go_at_call 93; (with_reducible refine (HL1.out _ HQ.out).mono ?_); rintro e w' ⟨rfl, nq, rfl⟩; have hq1 := Lib.hid (HQ.out.below (below_drewN wr nq)))
            go_wp2_with (go_at_call 93; (with_reducible refine (HL2.out _ hq1.out).mono ?_); rintro e w' ⟨rfl, nq2, rfl⟩; have hq2 := Lib.hid (HQ.out.below (below_drewN wr (nq + nq2))); have hs2 := hs.below (below_drewN wr (nq + nq2)))
            go_ret
            exact down_end hs2 hH.out hM.out (stop_min (min_left (by have := HT2.out; omega)) (by have := HT.out; omega)) rfl
      · have f3 : decide (2 * (k : Int) + 1 + 1 < (n : Int)) = false := decide_eq_false (by omega)
        have L2 := fun W (h : QIs W b cb r m cap N ps' D') => qless W h (2 * k + 1) k (by omega) (by omega)
        have S2 := fun W (h : QIs W b cb r m cap N ps' D') => qswap W h k (2 * k + 1) (by omega) (by omega) (by omega)
        rw [K1.out] at L2 S2
        by_cases t3 : num ps' (2 * k + 1) < num ps' k
        · rw [decide_eq_true t3] at L2
          have HL2 := Lib.hid L2
          have HS2 := Lib.hid S2
          have HT := Lib.hid t3
          clear L2 S2 t3
          go_wp2_with (go_at_call 93; (with_reducible refine (HL2.out _ HQ.out).mono ?_); rintro e w' ⟨rfl, nq2, rfl⟩; have hq2 := Lib.hid (HQ.out.below (below_drewN wr nq2)); have hs2 := hs.below (below_drewN wr nq2))
          go_wp2_with (go_at_call 96; (with_reducible refine (HS2.out _ hq2.out).mono ?_); rintro e w' ⟨rfl, hD, hf⟩)
          go_roundw
          case rel => exact ⟨2 * k + 1, _, by rw [K1.out], by omega, hs2.step hk (by omega) hn (by omega) hD hf, by
            show Hole _ _ _
            rw [swp_swf ps' k (2 * k + 1) (by omega) (by omega)]
            exact (down_step hH.out (by omega) (by omega) (by unfold par; omega) HT.out (min_left (fun h => c2 h.1))).1, .inr ⟨by rcases hM.out with h | ⟨h, _⟩ <;> omega, by
            rw [swp_swf ps' k (2 * k + 1) (by omega) (by omega)]
            exact (down_step hH.out (by omega) (by omega) (by unfold par; omega) HT.out (min_left (fun h => c2 h.1))).2⟩⟩
          case measure => simp [RowKit.intOf]; omega
        · rw [decide_eq_false t3] at L2
          have HL2 := Lib.hid L2
          have HS2 := Lib.hid S2
          have HT := Lib.hid t3
          clear L2 S2 t3
          go_wp2_with (go_at_call 93; (with_reducible refine (HL2.out _ HQ.out).mono ?_); rintro e w' ⟨rfl, nq2, rfl⟩; have hq2 := Lib.hid (HQ.out.below (below_drewN wr nq2)); have hs2 := hs.below (below_drewN wr nq2))
          go_ret
          exact down_end hs2 hH.out hM.out (stop_min (min_left (fun h => c2 h.1)) (by have := HT.out; omega)) rfl
    · have d1 : decide ((n : Int) ≤ 2 * (k : Int) + 1) = true := decide_eq_true (by omega)
      go_wp2
      go_ret
      exact down_end hs hH.out hM.out (stop_leaf (by omega)) rfl

end Go.Proofs.Ytalgbimclagdjaa.P3
