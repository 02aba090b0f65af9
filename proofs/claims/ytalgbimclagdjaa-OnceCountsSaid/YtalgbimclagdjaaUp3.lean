/-
  container/heap over package once's queue: up.
-/
import Derived.Test.YtalgbimclagdjaaPop3
namespace Go.Proofs.Ytalgbimclagdjaa.P3
open Go Go.RowKit Go.Lib Go.Maps Go.ChangeMaps Go.MapKept

/-- what is kept while the heap is put in order: the same pins, those from n on in their places, the same memory -/
structure Sift (w : World) (b : Nat) (cb : Array Value) (r m cap N n : Nat) (ps ps' : PinL) (wr : World) : Prop where
  q : ∃ D', QIs wr b cb r m cap N ps' D'
  len : ps'.length = ps.length
  perm : ps'.Perm ps
  rest : ∀ k, n ≤ k → ps'.getD k (0, 0) = ps.getD k (0, 0)
  fr : Fr (fun k => k = r ∨ k = m) w wr
theorem Sift.refl {w : World} {b : Nat} {cb : Array Value} {r m cap N n : Nat} {ps : PinL} {D : DataW Unit} (h : QIs w b cb r m cap N ps D) : Sift w b cb r m cap N n ps ps w :=
  ⟨⟨D, h⟩, rfl, .refl _, fun _ _ => rfl, Fr.refl _ _⟩
theorem Sift.below {w wr w' : World} {b : Nat} {cb : Array Value} {r m cap N n : Nat} {ps ps' : PinL} (h : Sift w b cb r m cap N n ps ps' wr) (hb : Below wr.heap.size wr w') : Sift w b cb r m cap N n ps ps' w' := by
  obtain ⟨D, hq⟩ := h.q
  exact { h with q := ⟨D, hq.below hb⟩, fr := h.fr.trans (.of hb) }
theorem Sift.step {w wr w' : World} {b : Nat} {cb : Array Value} {r m cap N n i j : Nat} {ps ps' : PinL} (h : Sift w b cb r m cap N n ps ps' wr) (hi : i < n) (hj : j < n) (hn : n ≤ ps.length) (hij : i ≠ j)
    (hq : ∃ D', QIs w' b cb r m cap N (swp ps' i j) D') (hf : Fr (fun k => k = r ∨ k = m) wr w') : Sift w b cb r m cap N n ps (swp ps' i j) w' := by
  have hl := h.len
  refine ⟨hq, by rw [swp_length]; exact hl, (swp_perm ps' i j hij (by omega) (by omega)).trans h.perm, fun k hk => ?_, h.fr.trans hf⟩
  rw [swp_at ps' i j k (by omega) (by omega), if_neg (by omega), if_neg (by omega)]
  exact h.rest k hk
theorem swp_swf (ps : PinL) (i j : Nat) (hi : i < ps.length) (hj : j < ps.length) : num (swp ps i j) = swf (num ps) i j := by
  funext k
  rw [swp_num ps i j k hi hj]
  rfl

theorem mLess (a : Addr) (w : World) : (method 232 82 (.pointer (some a)) "Less").run Try.prog w = .ok (93, .pointer (some a)) w := by kernel_rfl
theorem mSwap (a : Addr) (w : World) : (method 232 82 (.pointer (some a)) "Swap").run Try.prog w = .ok (96, .pointer (some a)) w := by kernel_rfl
theorem mLen (a : Addr) (w : World) : (method 232 82 (.pointer (some a)) "Len").run Try.prog w = .ok (48, .pointer (some a)) w := by kernel_rfl
theorem mPush (a : Addr) (w : World) : (method 232 82 (.pointer (some a)) "Push").run Try.prog w = .ok (95, .pointer (some a)) w := by kernel_rfl
theorem mPop (a : Addr) (w : World) : (method 232 82 (.pointer (some a)) "Pop").run Try.prog w = .ok (94, .pointer (some a)) w := by kernel_rfl

set_option maxRecDepth 100000 in
theorem hup (w : World) {b : Nat} {cb : Array Value} {r m cap N n : Nat} {ps : PinL} {D : DataW Unit} (h : QIs w b cb r m cap N ps D) (j : Nat) (hj : j < n) (hn : n ≤ ps.length) (hu : UpTo (num ps) n j) :
    Calls Try.prog 58 #[.iface 82 (.pointer (some ⟨b, 3, none⟩)), .int .i64 j] w fun e w' => e = .returned (.tuple #[]) ∧ ∃ ps', Sift w b cb r m cap N n ps ps' w' ∧ Ord (num ps') n := by
  have hroom := h.room
  have hlen := h.len
  have HS := Lib.hid (Sift.refl (n := n) h)
  have HU := Lib.hid hu
  clear h hu
  have m1 := mLess
  have m2 := mSwap
  go_enter Try.func58, Try.ntmps58
  go_wp2
  go_loopw [1] (fun v wr => ∃ (k : Nat) (ps' : PinL), v = .int .i64 k ∧ k < n ∧ Sift w b cb r m cap N n ps ps' wr ∧ Hid (UpTo (num ps') n k)) (fun v _ => (RowKit.intOf v).toNat)
  case atStart => exact ⟨j, ps, rfl, hj, HS.out, HU.out⟩
  case round =>
    clear HS HU
    obtain ⟨k, ps', rfl, hk, hs, hU⟩ := hrel
    have hl := hs.len
    by_cases h0 : k = 0
    · subst h0
      go_wp2
      go_end0
      exact ⟨rfl, ps', hs, up_stop hU.out (.inl rfl)⟩
    · obtain ⟨p, hp⟩ : ∃ p, p = par k := ⟨_, rfl⟩
      have hpk : p < k := by unfold par at hp; omega
      have e1 : ((k : Int) - 1) / 2 = (p : Int) := by unfold par at hp; omega
      have b0 : (1 : Int) ≤ (k : Int) := by omega
      have b1 : (k : Int) ≤ 1000000 := by omega
      have t1 : ((p : Int) == (k : Int)) = false := by simp; omega
      obtain ⟨D', hq⟩ := hs.q
      have L := qless wr hq k p (by omega) (by omega)
      by_cases hlt : num ps' k < num ps' p
      · rw [decide_eq_true hlt] at L
        have HL := Lib.hid L
        have HQ := Lib.hid hq
        have HP := Lib.hid hp
        have HT := Lib.hid hlt
        clear L hq hp hlt
        go_wp2_with (go_at_call 93; refine HL.out.mono ?_; rintro e w' ⟨rfl, nq, rfl⟩)
        have hq2 := HQ.out.below (below_drewN wr nq)
        have S := qswap _ hq2 p k (by omega) (by omega) (by omega)
        have HS := Lib.hid S
        clear S hq2
        go_wp2_with (go_at_call 96; refine HS.out.mono ?_; rintro e w' ⟨rfl, hD, hf⟩)
        go_roundw
        case rel => exact ⟨p, _, rfl, by omega, (hs.below (below_drewN wr nq)).step (by omega) hk hn (by omega) hD hf, by
          show UpTo _ _ _
          rw [swp_swf ps' p k (by omega) (by omega), HP.out]
          exact up_step hU.out (by omega) hk (by rw [← HP.out]; exact HT.out)⟩
        case measure => simp [RowKit.intOf]; omega
      · rw [decide_eq_false hlt] at L
        have HL := Lib.hid L
        have HP := Lib.hid hp
        have HT := Lib.hid hlt
        clear L hq hp hlt
        go_wp2_with (go_at_call 93; refine HL.out.mono ?_; rintro e w' ⟨rfl, nq, rfl⟩)
        go_end0
        exact ⟨rfl, ps', hs.below (below_drewN wr nq), up_stop hU.out (.inr (by rw [← HP.out]; have := HT.out; omega))⟩

end Go.Proofs.Ytalgbimclagdjaa.P3
