/-
  Texts of the proof of SaidEdit9, side by side: U8, U9, KCItems.
-/
import Derived.Test.YtloajjaaidmaiaaGreatMpE20
import Derived.Test.YtloajjaaidmaiaaGreatMpE04
/-
  Package leaf: fit, Cut.
-/
namespace Go.Proofs.YtloajjaaidmaiaaGreat.P9
open Go Go.RowKit Go.Lib Go.Proofs.YtloajjaaidmaiaaGreat.PK

theorem ok_need {x : It} (h : x.ok = true) : x.need ≤ 133 := by
  unfold It.ok at h
  obtain ⟨o1, o2, o3, o4, o5⟩ := of_decide_eq_true h
  unfold It.need
  omega
theorem sumI_mono {l : List It} {m n : Nat} (h : m ≤ n) : sumI (l.take m) ≤ sumI (l.take n) := by
  have e : l.take m = (l.take n).take m := by rw [List.take_take, Nat.min_eq_left h]
  rw [e]
  exact sumI_le m

set_option maxRecDepth 100000 in
theorem fit_any (w : World) (v : Value) (l : List It) (h : ItsIn w v l) (hr : ∀ x ∈ l, x.ok = true) (h0 : 0 < l.length) (hn : l.length ≤ 1000000) :
    Calls Tryz.prog 85 #[v] w fun e w' => ∃ n : Nat, e = .returned (.int .i64 n) ∧ Fills l n ∧ Below w.heap.size w w' := by
  obtain ⟨a, c, rfl⟩ := h.slice
  have HA := Lib.hid (fun (i : Nat) (x : It) (hi : l[i]? = some x) => h.at_ hi)
  have HN := Lib.hid (fun W x hx => need_any W x hx)
  have HR := Lib.hid hr
  clear h hr
  go_enter Tryz.func85, Tryz.ntmps85
  go_wp2
  go_loopw [3, 8] (fun vn vi wr => ∃ i r : Nat, i ≤ l.length ∧ vn = .int .i64 r ∧ vi = .int .i64 i ∧ Hid (r + sumI (l.take i) = 231) ∧ r ≤ 231 ∧ Hid (Below w.heap.size w wr)) (fun _ vi _ => l.length - (RowKit.intOf vi).toNat)
  case atStart => exact ⟨0, 231, Nat.zero_le _, rfl, rfl, (rfl : 231 + sumI (l.take 0) = 231), Nat.le_refl _, Below.refl _ _⟩
  case round =>
    obtain ⟨i, r, hi, rfl, rfl, HS, hr9, HB⟩ := hrel
    by_cases hlt : i < l.length
    · obtain ⟨x, hx⟩ : ∃ x, l[i]? = some x := ⟨_, List.getElem?_eq_getElem hlt⟩
      obtain ⟨b, off, rfl, hc⟩ := HA.out i x hx
      obtain ⟨c0, c1, c2⟩ := hc wr HB.out
      have k1 : decide ((i : Int) < (l.length : Int)) = true := decide_eq_true (by omega)
      have k2 : (i : Int) < (l.length : Int) := by omega
      have k3 : (0 : Int) ≤ (i : Int) := by omega
      have hok := HR.out x (List.mem_of_getElem? hx)
      have hnd := ok_need hok
      have HNx : Hid (∀ W, Calls Tryz.prog 43 #[.agg #[.string x.key, .string x.val, .int .i64 x.kind]] W fun r w' => r = .returned (.int .i64 (x.need : Nat)) ∧ Below W.heap.size W w') := fun W => HN.out W x (by omega)
      have hst := sumI_take hx
      by_cases hq : x.need ≤ r
      · have HS2 : Hid (r - x.need + sumI (l.take (i + 1)) = 231) := by
          show _ = _
          have := HS.out
          omega
        have k4 : decide ((r : Int) - (x.need : Int) < 0) = false := decide_eq_false (by omega)
        have k5 : (r : Int) - (x.need : Int) = ((r - x.need : Nat) : Int) := by omega
        generalize x.need = nd at *
        clear hc hx HN hst hok
        go_wp2_with (go_at_call 43; (with_reducible refine (HNx.out _).mono ?_); rintro e w2 ⟨rfl, hb2⟩; have HB2 := Lib.hid (thenBelow (grow HB.out _) hb2); clear hb2)
        go_roundw
        case rel => exact ⟨i + 1, r - nd, by omega, by go_num, by go_num, HS2, by omega, HB2⟩
        case measure => simp [RowKit.intOf]; omega
      · have k4 : decide ((r : Int) - (x.need : Int) < 0) = true := decide_eq_true (by omega)
        have HF : Hid (Fills l i) := by
          have hs := HS.out
          refine ⟨Nat.pos_of_ne_zero fun e => ?_, by omega, fun m _ hm => ?_, fun _ => by omega⟩
          · subst e
            rw [show sumI (l.take 0) = 0 from rfl] at hs
            omega
          · have := sumI_mono (l := l) hm
            omega
        generalize x.need = nd at *
        clear hc hx HN hst hok
        go_wp2_with (go_at_call 43; (with_reducible refine (HNx.out _).mono ?_); rintro e w2 ⟨rfl, hb2⟩; have HB2 := Lib.hid (thenBelow (grow HB.out _) hb2); clear hb2)
        go_ret
        exact ⟨i, rfl, HF.out, HB2.out⟩
    · have e : i = l.length := by omega
      subst e
      have k1 : decide ((l.length : Int) < (l.length : Int)) = false := decide_eq_false (by omega)
      have HF : Hid (Fills l l.length) := by
        have hs := HS.out
        rw [List.take_length] at hs
        refine ⟨h0, Nat.le_refl _, fun m _ hm => ?_, fun q => absurd q (Nat.lt_irrefl _)⟩
        have := sumI_le (l := l) m
        omega
      go_wp2
      go_ret
      exact ⟨_, rfl, HF.out, HB.out⟩

end Go.Proofs.YtloajjaaidmaiaaGreat.P9

/-
  Package leaf: Cut.
-/
namespace Go.Proofs.YtloajjaaidmaiaaGreat.P9
open Go Go.RowKit Go.Lib Go.Proofs.YtloajjaaidmaiaaGreat.PK

theorem OwnI.row {lo : Nat} {w : World} {v : Value} {l : List It} (h : OwnI lo w v l) : (tRow kItems v (cellsI l)).At w lo := by
  show w.ownsRow lo 50 3 v (cellsI l).length (cellsI l).flatten
  rw [cellsI_length]
  exact h.1
/-- parts, each a row of its own, and the row of all of them -/
def CutR (w wr : World) (v : Value) (us : List Value) (P : List (List It)) : Prop :=
  us.length = P.length ∧ Rws w (vRow kItems v us :: rowsOf kItems us (P.map cellsI)) wr
theorem CutR.nil (w : World) : CutR w w (.slice none 0 0) [] [] := ⟨rfl, (Rws.nil w).add (Below.refl _ _) (World.ownsRow_nil _ _ _ _)⟩
theorem CutR.over {w wr w' : World} {v : Value} {us : List Value} {P : List (List It)} (h : CutR w wr v us P) (k : Below wr.heap.size wr w') : CutR w w' v us P := ⟨h.1, h.2.over k⟩
theorem CutR.own {w wr : World} {v : Value} {us : List Value} {P : List (List It)} (h : CutR w wr v us P) : wr.ownsRow w.heap.size 22 1 v us.length us := h.2.own _ List.mem_cons_self
theorem CutR.next {w wr w2 w3 w5 : World} {pv v' : Value} {us : List Value} {P : List (List It)} {L : List It} {o : Obj} {p : Option Addr} {q : Nat} (h : CutR w wr pv us P) (k1 : Below wr.heap.size wr w2) (hx : OwnI w2.heap.size w3 v' L) (k2 : Below w2.heap.size w2 w3)
    (hown : w5.ownsRow w.heap.size 22 1 (.slice p (us.length + 1 : Nat) q) (us.length + 1) (us ++ [v'])) (hg : (w3.alloc o).grownBy w5 pv.ownBlock) (hat : (Value.slice p (us.length + 1 : Nat) q).ownBlock = pv.ownBlock ∨ (Value.slice p (us.length + 1 : Nat) q).ownBlock = some (w3.alloc o).heap.size) :
    CutR w w5 (.slice p (us.length + 1 : Nat) q) (us ++ [v']) (P ++ [L]) := by
  have a3 := ((h.2.over k1).add k2 hx.row).over (below_new w3 o)
  have a4 := Rws.grown (l1 := [tRow kItems v' (cellsI L)]) (x := vRow kItems pv us) a3 hg hown (hat.imp id (fun e g hg => by rw [e] at hg; cases hg; exact Nat.le_refl _))
  refine ⟨by simp [h.1], a4.perm ?_⟩
  have e : vRow kItems (.slice p (us.length + 1 : Nat) q) (us ++ [v']) = ⟨.slice p (us.length + 1 : Nat) q, (vRow kItems pv us).e, (vRow kItems pv us).size, us.length + 1, us ++ [v']⟩ := by
    unfold vRow
    simp
  rw [List.map_append, List.map_singleton, rowsOf_snoc (by simp [h.1]), e]
  refine (List.Perm.swap _ _ _).trans (List.Perm.cons _ ?_)
  exact (List.perm_append_comm (l₁ := [tRow kItems v' (cellsI L)]))
/-- .. at the end -/
theorem CutR.part {w wr : World} {v : Value} {us : List Value} {P : List (List It)} (h : CutR w wr v us P) {i : Nat} {u : Value} {L : List It} (hu : us[i]? = some u) (hL : P[i]? = some L) (hl : L.length ≤ 1000000) : ItsIn wr u L := by
  refine tRow_elems (κ := kItems) (h.2.own _ (List.mem_cons_of_mem _ (rowsOf_mem hu (by rw [List.getElem?_map, hL]; rfl)))) (by rw [cellsI_length]; omega) (cellsI_ok L)

set_option maxRecDepth 100000 in
set_option maxHeartbeats 8000000 in
theorem cut_some (w : World) (b off c : Nat) (l : List It) (h : ItsIn w (.slice (some ⟨b, off, none⟩) l.length c) l) (hc : l.length ≤ c) (hm : c ≤ 9223372036854775807) (hn : l.length ≤ 100000) (hr : RightI l) :
    Calls Tryz.prog 25 #[.slice (some ⟨b, off, none⟩) l.length c] w fun e w' => ∃ v us P, e = .returned (.tuple #[v, .int .i64 0]) ∧ Cuts l P ∧ CutR w w' v us P := by
  obtain ⟨i0, hi0, hz0, hz1, hz2⟩ := info_parts infoItemss
  have HO := Lib.hid (ordered_any w _ l h)
  have HRI := Lib.hid hr
  go_enter Tryz.func25, Tryz.ntmps25
  go_wp2_with (go_at_call 29; (with_reducible refine (HO.out).mono ?_); rintro e w1 ⟨⟨bb, rfl, hbb⟩, hb⟩; obtain rfl : bb = true := hbb.2 HRI.out; have HB1 := Lib.hid hb; clear hb hbb)
  have HC1 : Hid (CutR w w1 (.slice none 0 0) [] []) := (CutR.nil w).over HB1.out
  clear HO HB1
  go_loopw [0, 4] (fun vl vo wr => ∃ (k o2 : Nat) (us : List Value) (P : List (List It)), k ≤ l.length ∧ vl = .slice (some ⟨b, o2, none⟩) (l.length - k : Nat) (c - k : Nat) ∧ (k < l.length → o2 = off + k * 3) ∧ Hid (∀ Q, Cuts (l.drop k) Q → Cuts l (P ++ Q)) ∧ us.length ≤ k ∧ Hid (CutR w wr vo us P)) (fun vl _ _ => lenV vl)
  case atStart => exact ⟨0, off, [], [], Nat.zero_le _, by simp, fun _ => by omega, fun Q h => h, Nat.le_refl _, HC1⟩
  case round =>
    clear HC1
    obtain ⟨k, o2, us, P, hk, rfl, hoo, HQ, hP, HP⟩ := hrel
    by_cases hlt : k < l.length
    · obtain ⟨m, hm1⟩ : ∃ m, m = l.length - k := ⟨_, rfl⟩
      obtain ⟨cc, hc1⟩ : ∃ cc, cc = c - k := ⟨_, rfl⟩
      have ho2 := hoo hlt
      obtain ⟨L, hL⟩ : ∃ L, L = l.drop k := ⟨_, rfl⟩
      have hLm : L.length = m := by rw [hL, List.length_drop, hm1]
      have hI : ItsIn w (.slice (some ⟨b, o2, none⟩) L.length cc) L := by
        have := h.drop hk cc
        rw [hL, List.length_drop, ho2]
        exact this
      have hrL : ∀ x ∈ L, x.ok = true := fun x hx => by
        rw [hL] at hx
        exact hr.ok (List.mem_of_mem_drop hx)
      have HFt : Hid (∀ W, Below w.heap.size w W → Calls Tryz.prog 85 #[.slice (some ⟨b, o2, none⟩) m cc] W fun e w' => ∃ n : Nat, e = .returned (.int .i64 n) ∧ Fills L n ∧ Below W.heap.size W w') := fun W hW => by
        rw [← hLm]
        exact fit_any W _ L (hI.below hW) hrL (by omega) (by omega)
      have HCl : Hid (∀ W n, Below w.heap.size w W → n ≤ L.length → Calls Tryz.prog 84 #[.slice (some ⟨b, o2, none⟩) n cc] W fun e w' => ∃ v', e = .returned v' ∧ OwnI W.heap.size w' v' (L.take n) ∧ Below W.heap.size W w') := fun W n hW hn => cloneI_any W _ _ ((hI.take hn).below hW) (by rw [List.length_take]; omega)
      rw [← hm1, ← hc1]
      have hmc : m ≤ cc := by omega
      have hcb : cc ≤ 9223372036854775807 := by omega
      have hm0 : 0 < m := by omega
      have k1 : decide ((0 : Int) < (m : Int)) = true := decide_eq_true (by omega)
      have k1' : decide (0 < m) = true := decide_eq_true hm0
      have HL := Lib.hid hL
      have HLm := Lib.hid hLm
      have HK : Hid (m = l.length - k ∧ cc = c - k ∧ o2 = off + k * 3 ∧ k < l.length ∧ l.length ≤ c ∧ us.length ≤ k) := ⟨hm1, hc1, ho2, hlt, hc, hP⟩
      have j4 : us.length ≤ 100000 := by omega
      clear hoo hI hL hLm hm1 hc1 ho2 hk hlt hc hm h hr hrL hP hn
      obtain ⟨va, vn, vc, rfl⟩ := owns_shape HP.out.own
      have HBr := Lib.hid HP.out.2.below
      go_wp2_with (first
        | (go_at_call 85; (with_reducible refine (HFt.out _ HBr.out).mono ?_); rintro e w2 ⟨n, rfl, hF, hb⟩; have HF := Lib.hid hF; have hn1 := hF.1; have hn2 : n ≤ m := (by have := hF.2.1; rw [HLm.out] at this; exact this); have j1 : (n : Int) ≤ (m : Int) := (by omega); have j2 : (0 : Int) ≤ (n : Int) := (by omega); have j3 : (n : Int) ≤ (cc : Int) := (by omega); have HB2 := Lib.hid hb; have HBw2 := Lib.hid (thenBelow HBr.out hb); clear hF hb)
        | (go_at_call 84; (with_reducible refine (HCl.out _ n HBw2.out (by rw [HLm.out]; exact hn2)).mono ?_); rintro e w3 ⟨v3, rfl, h3, hb⟩; obtain ⟨ta, tn, tc, rfl⟩ := owns_shape h3.1; have HO3 := Lib.hid h3; have HB3 := Lib.hid hb; have HBw3 := Lib.hid (thenBelow HBw2.out hb); clear h3 hb)
        | (at_builtin; refine wpList_app rfl _ _ 28 rfl w.heap.size 22 i0 (.slice none 0 0) 1 24 Tryz.underlying28 hi0 hz0 hz1 hz2 rfl (by decide) (.slice va vn vc) us.length us rfl ((HP.out.over (thenBelow (thenBelow HB2.out HB3.out) (below_new _ _))).own) (some ⟨w3.heap.size, 0, none⟩) 1 1 [.slice ta tn tc] rfl rfl (by intro A hA j u hu; cases hA; exact cells_new w3 [.slice ta tn tc] 22 j u hu) (by intro e; cases e) (by intro u hu; simp at hu; subst hu; rfl) (by unfold maxLen; omega) (by omega) (thenBelow HBw3.out (below_new _ _)).size ?_; intro p5 q5 w5 hown hgrow hat; have HR5 := Lib.hid (HP.out.next HB2.out HO3.out HB3.out hown hgrow hat); clear hown hgrow hat))
      have HQn : Hid (∀ Q, Cuts (l.drop (k + n)) Q → Cuts l ((P ++ [L.take n]) ++ Q)) := fun Q hQ => by
        rw [List.append_assoc]
        refine HQ.out _ (?_ : Cuts (l.drop k) (L.take n :: Q))
        have h1 := HL.out
        rw [← h1]
        refine Cuts.cons HF.out ?_
        rw [h1, List.drop_drop]
        exact hQ
      obtain ⟨q1, q2, q3', q4, q5', q6⟩ := HK.out
      refine ⟨⟨k + n, if cc = n then o2 else o2 + n * 3, us ++ [.slice ta tn tc], P ++ [L.take n], by omega, ?_, fun h => ?_, HQn, by rw [List.length_append, List.length_singleton]; omega, HR5⟩, ?_⟩
      · rw [show l.length - (k + n) = m - n by omega, show c - (k + n) = cc - n by omega]
        by_cases e : cc = n
        · first | (rw [if_pos e, if_pos e]; done) | (exfalso; omega)
        · first | (rw [if_neg e, if_neg e]; done) | (rw [if_neg e]; done)
      · rw [if_neg (by omega), q3', Nat.add_mul]
        omega
      · show m - n < m
        omega
    · have e : k = l.length := by omega
      subst e
      have HCt : Hid (Cuts l P) := by
        have := HQ.out [] (by rw [List.drop_length]; exact Cuts.nil)
        rwa [List.append_nil] at this
      have k1 : decide ((0 : Int) < ((l.length - l.length : Nat) : Int)) = false := decide_eq_false (by omega)
      have k2 : l.length - l.length = 0 := Nat.sub_self _
      clear hoo hlt hk HQ h hr
      go_wp2
      go_ret2
      exact ⟨_, us, P, rfl, HCt.out, HP.out⟩
theorem cut_empty (w : World) (a : Option Addr) (c : Nat) (h : ItsIn w (.slice a 0 c) []) :
    Calls Tryz.prog 25 #[.slice a 0 c] w fun e w' => ∃ v us P, e = .returned (.tuple #[v, .int .i64 0]) ∧ Cuts [] P ∧ CutR w w' v us P := by
  have HO := Lib.hid (ordered_any w _ [] h)
  clear h
  go_enter Tryz.func25, Tryz.ntmps25
  go_wp2_with (go_at_call 29; (with_reducible refine (HO.out).mono ?_); rintro e w1 ⟨⟨bb, rfl, hbb⟩, hb⟩; obtain rfl : bb = true := hbb.2 RightI.nil; have HC1 : Hid (CutR w w1 (.slice none 0 0) [] []) := (CutR.nil w).over hb; clear hb hbb)
  refine wp_loop_rounds 1 ?_
  rw [rounds_succ]
  go_wp2
  go_ret2
  exact ⟨_, [], [], rfl, Cuts.nil, HC1.out⟩
theorem cut_bad (w : World) (v : Value) (l : List It) (h : ItsIn w v l) (hr : ¬ RightI l) :
    Calls Tryz.prog 25 #[v] w fun e w' => e = .returned (.tuple #[.slice none 0 0, .int .i64 1]) ∧ Below w.heap.size w w' := by
  have HR := Lib.hid (ordered_any w _ l h)
  have HRI := Lib.hid hr
  clear h hr
  go_enter Tryz.func25, Tryz.ntmps25
  go_wp2_with (go_at_call 29; (with_reducible refine (HR.out).mono ?_); rintro e w1 ⟨⟨bb, rfl, hbb⟩, hb⟩; obtain rfl : bb = false := (Bool.eq_false_iff.2 fun q => HRI.out (hbb.1 q)); have HB1 := Lib.hid hb; clear hb hbb)
  go_ret2
  exact ⟨rfl, HB1.out⟩
theorem cut_any (w : World) (v : Value) (l : List It) (h : ItsIn w v l) (hw : Wide v) (hn : l.length ≤ 100000) (hr : RightI l) :
    Calls Tryz.prog 25 #[v] w fun e w' => ∃ v us P, e = .returned (.tuple #[v, .int .i64 0]) ∧ Cuts l P ∧ CutR w w' v us P := by
  obtain ⟨a, n, c, rfl, hc, hm⟩ := hw
  obtain rfl : n = l.length := by
    obtain ⟨_, _, e⟩ := h.slice
    simp only [Value.slice.injEq] at e
    exact e.2.1
  by_cases h0 : l = []
  · subst h0
    exact cut_empty w a c h
  · cases a with
    | none =>
      obtain ⟨_, _, _, q⟩ := h.nil_ rfl
      exact absurd q h0
    | some A =>
      obtain ⟨b, off, rfl⟩ := h.addr (List.length_pos_iff.2 h0)
      exact cut_some w b off c l h hc hm hn hr

end Go.Proofs.YtloajjaaidmaiaaGreat.P9

/-
  The book, Items: copied.
-/
namespace Go.Proofs.YtloajjaaidmaiaaGreat.PK
open Go Go.RowKit Go.Lib

set_option maxRecDepth 100000 in
theorem copyItems_any (w : World) (v : Value) (l : List (List Value)) (h : ElemsIn kItems w v l) (hl : l.length ≤ 1000000) :
    Calls Tryz.prog 28 #[v] w fun e w' => ∃ (a : Option Addr) (n c : Nat), e = .returned (.slice a n c) ∧ (tRow kItems (.slice a n c) l).At w' w.heap.size ∧ Below w.heap.size w w' := by
  obtain ⟨i0, hi, hz0, hz1, hz2⟩ := info_parts infoEItems
  have key : Calls Tryz.prog 28 #[v] w fun e w' => ∃ u, e = .returned u ∧ w'.ownsRow w.heap.size 50 3 u l.length l.flatten ∧ Below w.heap.size w w' := by
    have h0 := h
    obtain ⟨a, c, rfl, hn, _, hk, hc⟩ := h
    have hfl : l.flatten.length = l.length * 3 := hk.flat
    have hone := hk.one
    rcases a with _ | a
    · obtain rfl := hn rfl
      have hl0 : l = [] := by
        rcases l with _ | ⟨s, l⟩
        · rfl
        · obtain ⟨b, off, h, _⟩ := hc (by simp)
          cases h
      subst hl0
      clear hn hc hl h0 hk hfl hone
      go_enter Tryz.func28, Tryz.ntmps28
      go_wp2_with (at_builtin; refine wpList_append_own_none rfl _ _ 22 rfl w.heap.size 50 i0 3 Tryz.underlying22 hi _ 0 [] rfl (World.ownsRow_nil _ _ _ _) rfl ?_)
      go_ret
      exact ⟨_, rfl, World.ownsRow_nil _ _ _ _, Below.refl _ _⟩
    · have hnews : ∀ j u, l.flatten[j]? = some u → w.cell? (a.add j) = some u := fun j u hu => h0.flat rfl hu
      clear hn hc h0 hk
      go_enter Tryz.func28, Tryz.ntmps28
      go_wp2_with (at_builtin; refine wpList_append_own _ rfl _ _ 22 rfl w.heap.size 50 i0 (Value.agg #[.string ⟨#[]⟩, .string ⟨#[]⟩, .int .i64 0]) 3 40 Tryz.underlying22 hi hz0 hz1 hz2 rfl (by decide) _ 0 [] rfl (World.ownsRow_nil _ _ _ _) a l.length c l.flatten rfl ?c0 hnews ?c2 ?c3 ?c4 (Nat.le_refl _) ?_)
      case c0 => exact hfl
      case c2 => exact hone
      case c3 => unfold maxLen; omega
      case c4 => omega
      intro v' w2 hown hgrow _
      have hB : Below w.heap.size w w2 := (Below.refl _ w).grown hgrow (Nat.le_refl _) (fun k hk => by cases hk)
      clear hnews hgrow
      go_wp2
      go_ret
      exact ⟨_, rfl, hown, hB⟩
  refine key.mono fun e w' ⟨u, h1, h2, h3⟩ => ?_
  obtain ⟨a, n, c, rfl⟩ := owns_shape h2
  exact ⟨a, n, c, h1, h2, h3⟩

end Go.Proofs.YtloajjaaidmaiaaGreat.PK
