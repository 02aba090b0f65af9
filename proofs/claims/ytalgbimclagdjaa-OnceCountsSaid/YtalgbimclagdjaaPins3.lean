/-
  container/heap over package once's queue: Push, Remove.
-/
import Derived.Test.YtalgbimclagdjaaDown3
namespace Go.Proofs.Ytalgbimclagdjaa.P3
open Go Go.RowKit Go.Lib Go.Maps Go.ChangeMaps Go.MapKept

theorem FrP.sift {lo b : Nat} {w wr : World} {cb : Array Value} {r m cap N : Nat} {ps : PinL} {D : DataW Unit} (h : QIs w b cb r m cap N ps D) (hr : lo ≤ r) (hm : lo ≤ m) (hs : Fr (fun k => k = r ∨ k = m) w wr) : FrP lo b w wr := by
  obtain ⟨rc, hrr, _⟩ := h.row
  obtain ⟨es, clock, hmm, _⟩ := h.map
  refine .fr hs (fun _ hk => by rcases hk with rfl | rfl <;> assumption) (fun _ hk => ?_)
  rcases hk with rfl | rfl
  · exact .inr (.inr ⟨_, _, hrr⟩)
  · exact .inr (.inl ⟨_, _, hmm⟩)

theorem ord_snoc {ps : PinL} (h : Ord (num ps) ps.length) (x y : Int) : UpTo (num (ps ++ [(x, y)])) (ps.length + 1) ps.length :=
  ord_upto (ord_congr h fun _ hk => num_cut ps (x, y) hk)

set_option maxRecDepth 100000 in
theorem hpush (w : World) (lo b : Nat) (cb : Array Value) (N : Nat) (ps : PinL) (x y : Int) (hy : y = ((N + 1 : Nat) : Int)) (h : QAny lo w b cb N ps) (hO : Ord (num ps) ps.length) (hlo : lo ≤ b) (hN : N < 1000000) (hlen : ps.length ≤ N) :
    Calls Try.prog 46 #[.iface 82 (.pointer (some ⟨b, 3, none⟩)), .iface 84 (.agg #[.int .i64 x, .int .i64 y])] w fun e w' => e = .returned (.tuple #[]) ∧
      ∃ cb' r m cap D ps', lo ≤ r ∧ lo ≤ m ∧ QIs w' b cb' r m cap (N + 1) ps' D ∧ ps'.Perm (ps ++ [(x, y)]) ∧ Ord (num ps') ps'.length ∧ cb'.size = cb.size ∧ (∀ k, k < 3 → cb'[k]? = cb[k]?) ∧ FrP lo b w w' := by
  have m1 := mPush
  have m2 := mLen
  have b1 : (ps.length : Int) ≤ 1000000 := by omega
  have hp := qpush w lo b cb N ps x h hlo hN
  rw [← hy] at hp
  have HP := Lib.hid hp
  clear h hp hy
  go_enter Try.func46, Try.ntmps46
  go_wp2_with (go_at_call 95; (with_reducible refine HP.out.mono ?_); rintro e w1 ⟨rfl, hw⟩)
  obtain ⟨cb', r, m, cap, D, hr, hm, hq, hsz, hsame, hfr⟩ := hw
  have L := qlen w1 b _ _ _ ((cell_at hq.blk 3).trans hq.c3)
  have U := hup w1 hq ps.length (n := ps.length + 1) (by omega) (by simp) (ord_snoc hO x _)
  rw [show (((ps ++ [(x, y)]).length : Nat) : Int) = (ps.length : Int) + 1 by simp] at L
  have HL := Lib.hid L
  have HU := Lib.hid U
  have HQ := Lib.hid hq
  clear L U hq
  go_wp2_with (first
    | (go_at_call 48; (with_reducible refine HL.out.mono ?_); rintro e w2 ⟨rfl, rfl⟩)
    | (go_at_call 58; (with_reducible refine HU.out.mono ?_); rintro e w2 ⟨rfl, hps⟩))
  go_end0
  obtain ⟨ps', hs, hO'⟩ := hps
  obtain ⟨D', hq'⟩ := hs.q
  refine ⟨rfl, cb', r, m, cap, D', ps', hr, hm, hq', hs.perm, ?_, hsz, hsame, hfr.trans (.sift HQ.out hr hm hs.fr)⟩
  rw [hs.len]
  simpa using hO'

/-- a list is its first part and its last one -/
theorem cut_last (l : PinL) {n : Nat} (h : l.length = n + 1) : l = l.take n ++ [l.getD n (0, 0)] := by
  have h1 : l.getD n (0, 0) = l[n]'(by omega) := by rw [List.getD_eq_getElem?_getD, List.getElem?_eq_getElem (by omega)]; rfl
  rw [h1, List.take_append_getElem, List.take_of_length_le (by omega)]

/-- what Remove leaves -/
def Removed (lo b : Nat) (w : World) (cb : Array Value) (N : Nat) (ps : PinL) (p : Int × Int) (e : Ending) (w' : World) : Prop :=
  e = .returned (.iface 84 (.agg #[.int .i64 p.1, .int .i64 p.2])) ∧ ∃ cb' r m cap D ps', lo ≤ r ∧ lo ≤ m ∧ QIs w' b cb' r m cap N ps' D ∧ (ps' ++ [p]).Perm ps ∧ Ord (num ps') ps'.length ∧ cb'.size = cb.size ∧ (∀ k, k < 3 → cb'[k]? = cb[k]?) ∧ FrP lo b w w'

/-- the last step of Remove, in any world in which the pin stands at the end -/
theorem pop_end {w wr : World} {lo b : Nat} {cb : Array Value} {r m cap N n : Nat} {ps ps2 : PinL} {D2 : DataW Unit} {p : Int × Int} (hr : lo ≤ r) (hm : lo ≤ m) (hb : lo ≤ b) (hq : QIs wr b cb r m cap N ps2 D2) (hl : ps2.length = n + 1) (hp : ps2.getD n (0, 0) = p) (hperm : ps2.Perm ps)
    (hO : Ord (num ps2) n) (hf : FrP lo b w wr) : Calls Try.prog 94 #[.pointer (some ⟨b, 3, none⟩)] wr (Removed lo b w cb N ps p) := by
  have hc := cut_last ps2 hl
  rw [hp] at hc
  have ht : (ps2.take n).length = n := by rw [List.length_take]; omega
  have hn : ∀ k, k < n → num (ps2.take n) k = num ps2 k := fun k hk => by
    conv => rhs; rw [hc]
    exact (num_cut _ p (by omega)).symm
  rw [hc] at hq hperm
  refine (qpop wr hq).mono ?_
  rintro e w' ⟨rfl, hq', hf'⟩
  refine ⟨rfl, _, r, m, cap, _, _, hr, hm, hq', hperm, ?_, by simp, fun k hk => ?_, ?_⟩
  · rw [ht]
    exact ord_congr hO hn
  · rw [Array.getElem?_setIfInBounds, if_neg (by omega)]
  · obtain ⟨es, clock, hmm, _⟩ := hq.map
    refine hf.trans (.fr hf' (fun k hk => by rcases hk with rfl | rfl <;> assumption) (fun k hk => ?_))
    rcases hk with rfl | rfl
    · exact .inl rfl
    · exact .inr (.inl ⟨_, _, hmm⟩)

set_option maxRecDepth 100000 in
theorem hremove (w : World) {lo b : Nat} {cb : Array Value} {r m cap N : Nat} {ps : PinL} {D : DataW Unit} (h : QIs w b cb r m cap N ps D) (hr : lo ≤ r) (hm : lo ≤ m) (hb : lo ≤ b) (hO : Ord (num ps) ps.length) (i : Nat) (hi : i < ps.length) (p : Int × Int) (hp : ps.getD i (0, 0) = p) :
    Calls Try.prog 47 #[.iface 82 (.pointer (some ⟨b, 3, none⟩)), .int .i64 i] w (Removed lo b w cb N ps p) := by
  have m1 := mLen
  have m2 := mSwap
  have m3 := mPop
  have hlen := h.len
  have hroom := h.room
  obtain ⟨n, hn⟩ : ∃ n, ps.length = n + 1 := ⟨ps.length - 1, by omega⟩
  have b0 : (0 : Int) ≤ (n : Int) := by omega
  have b1 : (n : Int) ≤ 1000000 := by omega
  have L := qlen w b _ _ _ ((cell_at h.blk 3).trans h.c3)
  rw [show ((ps.length : Nat) : Int) = (n : Int) + 1 by omega] at L
  have HL := Lib.hid L
  clear L
  by_cases he : i = n
  · subst he
    have HP := Lib.hid (pop_end hr hm hb h hn hp (.refl _) (by rw [hn] at hO; exact ord_cut hO (by omega)) (FrP.refl lo b w))
    clear h hO hn hi hp
    go_enter Try.func47, Try.ntmps47
    go_wp2_with (first
      | (go_at_call 48; (with_reducible refine HL.out.mono ?_); rintro e w2 ⟨rfl, rfl⟩)
      | (go_at_call 94; (with_reducible refine HP.out.mono ?_); rintro e w2 ⟨rfl, hR⟩))
    go_ret
    exact ⟨rfl, hR⟩
  · have hin : i < n := by omega
    have ne1 : ((n : Int) != (i : Int)) = true := by simp; omega
    have hu0 : Hole (num (swp ps i n)) n i := ord_hole (by rw [hn] at hO; exact hO) hin (fun k hk hki => by rw [swp_num ps i n k hi (by omega), if_neg (by omega), if_neg hki])
    have hperm := swp_perm ps i n he hi (by omega)
    have hlast : (swp ps i n).getD n (0, 0) = p := by rw [swp_at ps i n n hi (by omega), if_pos rfl]; exact hp
    have hsl : (swp ps i n).length = n + 1 := by rw [swp_length]; exact hn
    have HS := Lib.hid (qswap w h i n hi (by omega) he)
    have HF := Lib.hid (fun wr hf => FrP.sift (wr := wr) h hr hm hf)
    have HU := Lib.hid hu0
    have HPm := Lib.hid hperm
    have HLast := Lib.hid hlast
    have HSl := Lib.hid hsl
    clear h hO hn hp hu0 hperm hlast hsl
    go_enter Try.func47, Try.ntmps47
    go_wp2_with (first
      | (go_at_call 48; (with_reducible refine HL.out.mono ?_); rintro e w2 ⟨rfl, rfl⟩)
      | (go_at_call 96; (with_reducible refine HS.out.mono ?_); rintro e w2 ⟨rfl, hD, hf⟩))
    obtain ⟨D1, hq1⟩ := hD
    refine (hdown w2 hq1 i hin (by have := HSl.out; omega) HU.out).mono ?_
    rintro e w3 ⟨ps2, hs, ⟨rfl, hO2⟩ | ⟨rfl, hU2⟩⟩
    · obtain ⟨D2, hq2⟩ := hs.q
      have HP := Lib.hid (pop_end hr hm hb hq2 (hs.len.trans HSl.out) ((hs.rest n (Nat.le_refl _)).trans HLast.out) (hs.perm.trans HPm.out) hO2 ((HF.out _ hf).trans (.sift hq1 hr hm hs.fr)))
      clear hq1 hq2 hs hO2
      go_wp2_with (go_at_call 94; (with_reducible refine HP.out.mono ?_); rintro e w4 ⟨rfl, hR⟩)
      go_ret
      exact ⟨rfl, hR⟩
    · obtain ⟨D2, hq2⟩ := hs.q
      have HUp := Lib.hid (hup w3 hq2 i hin (by have := HSl.out; have := hs.len; omega) hU2)
      have HQ1 := Lib.hid hq1
      have HQ2 := Lib.hid hq2
      clear hq1 hq2 hU2
      go_wp2_with (go_at_call 58; (with_reducible refine HUp.out.mono ?_); rintro e w4 ⟨rfl, hps⟩)
      obtain ⟨ps3, hs3, hO3⟩ := hps
      obtain ⟨D3, hq3⟩ := hs3.q
      have HP := Lib.hid (pop_end hr hm hb hq3 ((hs3.len.trans hs.len).trans HSl.out) (((hs3.rest n (Nat.le_refl _)).trans (hs.rest n (Nat.le_refl _))).trans HLast.out) ((hs3.perm.trans hs.perm).trans HPm.out) hO3 (((HF.out _ hf).trans (.sift HQ1.out hr hm hs.fr)).trans (.sift HQ2.out hr hm hs3.fr)))
      clear hq3 hs3 hs hO3
      go_wp2_with (go_at_call 94; (with_reducible refine HP.out.mono ?_); rintro e w5 ⟨rfl, hR⟩)
      go_ret
      exact ⟨rfl, hR⟩

end Go.Proofs.Ytalgbimclagdjaa.P3
