/-
  The book, Kids: one more list.
-/
import Derived.Test.YthihjkdankbnjaaGreatKCKids
import Derived.Deep.Cut
import Derived.Deep.RegionLaw
namespace Go.Proofs.YthihjkdankbnjaaGreat.PK
open Go Go.RowKit Go.Lib

set_option maxRecDepth 100000 in
set_option maxHeartbeats 4000000 in
theorem bookKids_any (w0 w : World) (R : List Row) (b : Nat) (bs : List Value) (tv cv u : Value) (us cs : List Value) (ls : List (List (List Value))) (l : List (List Value))
    (h : Bk kKids w0 (tRow kKids u l :: R) b bs tv cv us cs ls ls w) (hf : ls.length < 240) (hl : l.length ≤ 4000) (hs : Oks kKids l) (hu : ∃ (a : Option Addr) (n c : Nat), u = .slice a n c) :
    Calls Tryz.prog 11 #[.pointer (some ⟨b, 0, none⟩), u] w fun r w' => r = .returned (.tuple #[]) ∧ FrB (fun k => k = b ∨ tv.ownBlock = some k ∨ cv.ownBlock = some k) w w' ∧
      ∃ tv' cv' c, Bk kKids w0 R b ((bs.set 6 tv').set 7 cv') tv' cv' (us ++ [u]) (cs ++ [c]) (ls ++ [l]) (ls ++ [l]) w' := by
  obtain ⟨i1, hi1, hy0, hy1, hy2⟩ := info_parts infoSKids
  obtain ⟨⟨ta, tc, rfl⟩, ⟨ca, cc, rfl⟩⟩ := h.shapes
  obtain ⟨ua, un, uc, rfl⟩ := hu
  have hul := h.ul
  have hcl := h.cl
  have HB := Lib.hid h
  have c0 : w.cell? ⟨b, 6, none⟩ = some (.slice ta us.length tc) := h.cell0
  have hb1 := h.c1
  have hbl : 7 < bs.length := (List.getElem?_eq_some_iff.1 hb1).1
  have HB1 := Lib.hid (show bs[7]? = some (.slice ca cs.length cc) from hb1)
  have HA := Lib.hid (h.over (below_new w (.cells #[.slice ua un uc] 22)))
  have hsz := h.rows.below.size
  have htx := tRow_elems (h.rows.own (tRow kKids (.slice ua un uc) l) (by simp)) (by omega) hs
  have HT := Lib.hid htx
  have HCp := fun W (hW : ElemsIn kKids W (.slice ua un uc) l) => Lib.hid (copyKids_any W _ l hW (by omega))
  have b1 : decide ((us.length : Int) < 250) = true := decide_eq_true (by omega)
  have b1' : decide (us.length < 250) = true := decide_eq_true (by omega)
  have HUL := Lib.hid hul
  have HSH := Lib.hid h.short
  have HCL := Lib.hid hcl
  have u100 : us.length < 240 := by omega
  have c100 : cs.length < 240 := by have := h.lm; omega
  clear h htx hul hcl hb1
  go_enter Tryz.func11, Tryz.ntmps11
  go_wp2_with (at_builtin; refine wpList_append_lies _ rfl _ _ 29 rfl w0.heap.size 22 i1 (.slice none 0 0) 1 24 Tryz.underlying29 hi1 hy0 hy1 hy2 rfl (by decide) (.slice ta us.length tc) us.length us rfl ?d0 ⟨w.heap.size, 0, none⟩ 1 1 [.slice ua un uc] rfl rfl ?d1 ?d2 (by decide) ?d3 ?d4 ?d5 (w.heap.size + 1) ?d6 ?_)
  case d0 => exact HA.out.tv_
  case d1 => exact cell_one_new _ _ _
  case d2 => intro x hx; simp at hx; subst hx; rfl
  case d3 => unfold maxLen; omega
  case d4 => omega
  case d5 => simp; omega
  case d6 => simp
  intro g1 cap1 w3 hown3 hgrow3 hat3 hlt3
  have hat3' : (Value.slice (some ⟨g1, 0, none⟩) (us.length + 1) cap1).ownBlock = (Value.slice ta us.length tc).ownBlock ∨ ∀ g, (Value.slice (some ⟨g1, 0, none⟩) (us.length + 1) cap1).ownBlock = some g → (w.alloc (.cells #[.slice ua un uc] 22)).heap.size ≤ g := by
    rcases hat3 with e | e
    · exact .inl e.symm
    · refine .inr (fun g hg => ?_)
      have h9 : g1 = g := Option.some.inj hg
      rw [← h9, e]; simp
  have hG1 := bk_grow1 (κ := kKids) HB.out.rows (below_new w (.cells #[.slice ua un uc] 22)) hown3 hgrow3 hat3'
  have hbk1 := hG1.block (b := b) (cs := bs) (t := 36) (by simp)
  have k0 : w3.cell? ⟨b, 6, none⟩ = some (.slice ta us.length tc) := by rw [cell_at hbk1]; have h9 : bs[6]? = some (.slice ta us.length tc) := HB.out.c0; simpa using h9
  have k1 : w3.frozen? ⟨b, 6, none⟩ = false := free_at hbk1 6
  have HR1 := Lib.hid (bk_store hG1 6 (.slice (some ⟨g1, 0, none⟩) (us.length + 1) cap1) (by omega))
  have HF1 := Lib.hid (show FrB (fun k => k = b ∨ (Value.slice ta us.length tc).ownBlock = some k ∨ (Value.slice ca cs.length cc).ownBlock = some k) w (w3.setCell ⟨b, 6, none⟩ (.slice (some ⟨g1, 0, none⟩) (us.length + 1) cap1)) from
    ((FrB.of_below (below_new w (.cells #[.slice ua un uc] 22))).trans (FrB.grown hgrow3 (fun k e => .inr (.inl e)))).trans (FrB.set _ _ _ _ (.inl rfl)))
  clear hown3 hgrow3 hat3 hat3' hlt3 hG1 hbk1
  go_upto_region 2 with fail
  clear k0 k1 c0
  generalize hW4 : w3.setCell ⟨b, 6, none⟩ (.slice (some ⟨g1, 0, none⟩) (us.length + 1) cap1) = W4 at *
  have hR2 : Rws w0 ((tRow kKids (.slice ua un uc) l :: R) ++ (bl b (bs.set 6 (.slice (some ⟨g1, 0, none⟩) (us.length + 1) cap1)) 36 :: ([vRow kKids (.slice (some ⟨g1, 0, none⟩) (us.length + 1) cap1) (us ++ [.slice ua un uc])] ++ vRow kKids (.slice ca cs.length cc) cs :: (rowsOf kKids us ls ++ rowsOf kKids cs ls)))) W4 := HR1.out
  have hd := (Below.refl W4.heap.size W4).drew
  have hR2d := hR2.over hd
  have HR2d := Lib.hid hR2d
  have hbk2 := hR2d.block (b := b) (cs := bs.set 6 (.slice (some ⟨g1, 0, none⟩) (us.length + 1) cap1)) (t := 36) (by simp)
  have hset : (bs.set 6 (.slice (some ⟨g1, 0, none⟩) (us.length + 1) cap1))[7]? = some (.slice ca cs.length cc) := by rw [List.getElem?_set_ne (by decide)]; exact HB1.out
  have c1 : W4.drew.cell? ⟨b, 7, none⟩ = some (.slice ca cs.length cc) := by rw [cell_at hbk2]; simpa using hset
  have c1' : W4.cell? ⟨b, 7, none⟩ = some (.slice ca cs.length cc) := c1
  have hT4 := tRow_elems (hR2d.own (tRow kKids (.slice ua un uc) l) (by simp)) (by omega) hs
  have HT4 := Lib.hid hT4
  have HF1d := Lib.hid (HF1.out.trans (FrB.of_below hd))
  have hszd := hR2d.below.size
  have HCS := Lib.hid (show ∀ w5, Below W4.drew.heap.size W4.drew w5 → w5.cell? ⟨b, 7, none⟩ = some (.slice ca cs.length cc) from fun w5 hb5 => by
    rw [cell_at ((hR2d.over hb5).block (b := b) (cs := bs.set 6 (.slice (some ⟨g1, 0, none⟩) (us.length + 1) cap1)) (t := 36) (by simp))]; simpa using hset)
  clear hR2 hR2d hbk2 hT4 hW4 HF1 HR1 HA HB HT
  have hend : ∀ (w5 : World) (xa : Option Addr) (xn xc : Nat), (tRow kKids (.slice xa xn xc) l).At w5 W4.drew.heap.size → Below W4.drew.heap.size W4.drew w5 → ∀ g2 cap2 w6, w6.ownsRow w0.heap.size 22 1 (.slice (some ⟨g2, 0, none⟩) (cs.length + 1) cap2) (cs.length + 1) (cs ++ [.slice xa xn xc]) → (w5.alloc (.cells #[.slice xa xn xc] 22)).grownBy w6 (Value.slice ca cs.length cc).ownBlock → ((Value.slice ca cs.length cc).ownBlock = some g2 ∨ g2 = w5.heap.size + 1) → w6.cell? ⟨b, 7, none⟩ = some (.slice ca cs.length cc) ∧ w6.frozen? ⟨b, 7, none⟩ = false ∧ Hid (FrB (fun k => k = b ∨ (Value.slice ta us.length tc).ownBlock = some k ∨ (Value.slice ca cs.length cc).ownBlock = some k) w (w6.setCell ⟨b, 7, none⟩ (.slice (some ⟨g2, 0, none⟩) (cs.length + 1) cap2)) ∧ ∃ tv' cv' c, Bk kKids w0 R b ((bs.set 6 tv').set 7 cv') tv' cv' (us ++ [.slice ua un uc]) (cs ++ [c]) (ls ++ [l]) (ls ++ [l]) (w6.setCell ⟨b, 7, none⟩ (.slice (some ⟨g2, 0, none⟩) (cs.length + 1) cap2))) := by
    intro w5 xa xn xc hrow5 hb5 g2 cap2 w6 ho hg hat
    have hR5 := HR2d.out.add hb5 hrow5
    have hG := bk_grow2 (κ := kKids) (X := tRow kKids (.slice xa xn xc) l :: (tRow kKids (.slice ua un uc) l :: R)) hR5 (below_new w5 (.cells #[.slice xa xn xc] 22)) ho hg (by
      rcases hat with e | e
      · exact .inl e.symm
      · refine .inr (fun g hg => ?_)
        have h9 : g2 = g := Option.some.inj hg
        rw [← h9, e]; simp)
    have hbk := hG.block (b := b) (cs := bs.set 6 (.slice (some ⟨g1, 0, none⟩) (us.length + 1) cap1)) (t := 36) (by simp)
    refine ⟨by rw [cell_at hbk]; simpa using hset, free_at hbk 7, ?_, ?_⟩
    · exact ((HF1d.out.trans (FrB.of_below hb5)).trans (FrB.of_below (below_new w5 (.cells #[.slice xa xn xc] 22)))).trans ((FrB.grown hg (fun k e => .inr (.inr e))).trans (FrB.set _ _ _ _ (.inl rfl)))
    · refine ⟨.slice (some ⟨g1, 0, none⟩) (us.length + 1) cap1, .slice (some ⟨g2, 0, none⟩) (cs.length + 1) cap2, .slice xa xn xc, ?_⟩
      have hS := bk_store hG 7 (.slice (some ⟨g2, 0, none⟩) (cs.length + 1) cap2) (by rw [List.length_set]; omega)
      have hD := bk_done (R := R) (P := rowsOf kKids us ls) (Q := rowsOf kKids cs ls) hS
      rw [← rowsOf_snoc HUL.out, ← rowsOf_snoc HCL.out] at hD
      have hul := HUL.out
      have hcl := HCL.out
      have hl2 : ∀ m ∈ ls ++ [l], m.length ≤ 4000 ∧ Oks kKids m := by
        intro m hm
        rcases List.mem_append.1 hm with q | q
        · exact HSH.out m q
        · simp at q; subst q; exact ⟨hl, hs⟩
      exact ⟨hD, by rw [List.getElem?_set_ne (by decide)]; exact List.getElem?_set_self (by omega), List.getElem?_set_self (by rw [List.length_set]; omega), by simp [hul], by simp [hcl], rfl, by simp; omega, hl2, hl2⟩
  go_region_law (first
    | (refine step_append_lies _ rfl (.tmp 24) (.tmp 27) 29 rfl w0.heap.size 22 i1 (.slice none 0 0) 1 24 Tryz.underlying29 hi1 hy0 hy1 hy2 rfl (by decide) (.slice ca cs.length cc) cs.length cs rfl hcvA ⟨w5.heap.size, 0, none⟩ 1 1 [.slice xa xn xc] rfl rfl (cell_one_new _ _ _) (by intro x hx; simp at hx; subst hx; rfl) (by decide) (by unfold maxLen; omega) (by omega) (by simp; omega) (w5.heap.size + 1) (by simp) ?_; intro g2 cap2 w6 hown6 hgrow6 hat6 hlt6; obtain ⟨q0, q1, HZ⟩ := HEND.out g2 cap2 w6 hown6 hgrow6 hat6)
    | (go_simp; go_at_call 21; (with_reducible refine (HCp _ HT4.out).out.mono ?_); rintro e w5 ⟨xa, xn, xc, rfl, hrow5, hb5⟩; have cc5 := HCS.out w5 hb5; have cc6 := HCS.out _ (thenBelow hb5 (below_new w5 (.cells #[.slice xa xn xc] 22))); have hcvA := ((HR2d.out.over hb5).over (below_new w5 (.cells #[.slice xa xn xc] 22))).own (vRow kKids (.slice ca cs.length cc) cs) (by simp); have hs5 := hb5.size; have HEND : Hid (∀ g2 cap2 w6, w6.ownsRow w0.heap.size 22 1 (.slice (some ⟨g2, 0, none⟩) (cs.length + 1) cap2) (cs.length + 1) (cs ++ [.slice xa xn xc]) → (w5.alloc (.cells #[.slice xa xn xc] 22)).grownBy w6 (Value.slice ca cs.length cc).ownBlock → ((Value.slice ca cs.length cc).ownBlock = some g2 ∨ g2 = w5.heap.size + 1) → w6.cell? ⟨b, 7, none⟩ = some (.slice ca cs.length cc) ∧ w6.frozen? ⟨b, 7, none⟩ = false ∧ Hid (FrB (fun k => k = b ∨ (Value.slice ta us.length tc).ownBlock = some k ∨ (Value.slice ca cs.length cc).ownBlock = some k) w (w6.setCell ⟨b, 7, none⟩ (.slice (some ⟨g2, 0, none⟩) (cs.length + 1) cap2)) ∧ ∃ tv' cv' c, Bk kKids w0 R b ((bs.set 6 tv').set 7 cv') tv' cv' (us ++ [.slice ua un uc]) (cs ++ [c]) (ls ++ [l]) (ls ++ [l]) (w6.setCell ⟨b, 7, none⟩ (.slice (some ⟨g2, 0, none⟩) (cs.length + 1) cap2)))) := fun g2 cap2 w6 ho hg hat => hend w5 xa xn xc hrow5 hb5 g2 cap2 w6 ho hg hat))
  all_goals
    go_wp2
    go_end0
    exact ⟨rfl, HZ.out⟩


end Go.Proofs.YthihjkdankbnjaaGreat.PK
