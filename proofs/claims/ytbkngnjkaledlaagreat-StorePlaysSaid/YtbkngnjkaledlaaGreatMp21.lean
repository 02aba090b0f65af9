/-
  Texts of the proof of SaidPlay8b.
-/
import Derived.Test.YtbkngnjkaledlaaGreatMp19
set_option maxHeartbeats 8000000
set_option maxRecDepth 100000
namespace Go.Proofs.YtbkngnjkaledlaaGreat.P4
open Go Go.RowKit Go.Lib P3
def preB (p s : ByteArray) : Bool := !(decide (s.size < p.size) || !((s.extract 0 p.size).toList == p.toList))
def preL (p : ByteArray) (fs : List MF) : List ByteArray := (fs.map (·.name)).filter (preB p)
def SortedL (l : List ByteArray) : Prop := l.Pairwise fun a b => a.toList ≤ b.toList
theorem sorted_put {l : List ByteArray} {s : ByteArray} {k : Nat} (h : SortedL l) (hk : k ≤ l.length) (h1 : ∀ (j : Nat) (x : ByteArray), j < k → l[j]? = some x → Op.bytesLess x.toList s.toList = true) (h2 : ∀ x, l[k]? = some x → Op.bytesLess x.toList s.toList = false) : SortedL (l.take k ++ [s] ++ l.drop k) ∧ (l.take k ++ [s] ++ l.drop k).Perm (l ++ [s]) := by
 have ha : ∀ x ∈ l.take k, x.toList ≤ s.toList := fun x hx => by
  obtain ⟨j, hj⟩ := List.getElem?_of_mem hx
  rw [List.getElem?_take] at hj
  split at hj
  ·rename_i hjk
   have := h1 j x hjk hj
   rw [bytesLess_eq] at this
   exact List.le_of_lt (of_decide_eq_true this)
  ·cases hj
 have hb : ∀ x ∈ l.drop k, s.toList ≤ x.toList := fun x hx => by
  have hkl : k < l.length := by
   refine Nat.lt_of_not_le fun hle => ?_
   rw [List.drop_eq_nil_of_le hle] at hx
   simp at hx
  have e : l.drop k = l[k] :: l.drop (k + 1) := List.drop_eq_getElem_cons hkl
  have hs0 : s.toList ≤ l[k].toList := by
   have := h2 l[k] (List.getElem?_eq_getElem hkl)
   rw [bytesLess_eq] at this
   exact List.not_lt.1 (of_decide_eq_false this)
  rw [e] at hx
  rcases List.mem_cons.1 hx with rfl | hx
  ·exact hs0
  ·have hp : (l.drop k).Pairwise fun a b => a.toList ≤ b.toList := List.Pairwise.sublist (List.drop_sublist k l) h
   rw [e, List.pairwise_cons] at hp
   exact List.le_trans hs0 (hp.1 x hx)
 refine ⟨?_, ?_⟩
 ·have hta : (l.take k).Pairwise fun a b => a.toList ≤ b.toList := List.Pairwise.sublist (List.take_sublist k l) h
  have htb : (l.drop k).Pairwise fun a b => a.toList ≤ b.toList := List.Pairwise.sublist (List.drop_sublist k l) h
  show List.Pairwise _ _
  rw [List.append_assoc, List.pairwise_append]
  refine ⟨hta, ?_, fun a ha' b hb' => ?_⟩
  ·rw [List.singleton_append, List.pairwise_cons]
   exact ⟨fun x hx => hb x hx, htb⟩
  ·rcases List.mem_append.1 hb' with q | q
   ·obtain rfl := List.mem_singleton.1 q
    exact ha a ha'
   ·exact List.le_trans (ha a ha') (hb b q)
 ·have h3 : (l.take k ++ [s] ++ l.drop k).Perm (l.take k ++ l.drop k ++ [s]) := by
   rw [List.append_assoc, List.append_assoc]
   exact List.Perm.append_left _ List.perm_append_comm
  rwa [List.take_append_drop] at h3
theorem preL_next {p : ByteArray} {fs : List MF} {i : Nat} {f : MF} (h : fs[i]? = some f) : preL p (fs.take (i + 1)) = preL p (fs.take i) ++ if preB p f.name = true then [f.name] else [] := by
 unfold preL
 rw [List.take_add_one, h, List.map_append, List.filter_append]
 congr 1
 cases hb : preB p f.name <;> simp [hb]
def ListM (w : World) (D : RM) (p : ByteArray) (e : Ending) (w' : World) : Prop := ∃ v l, e = .returned v ∧ l.Perm (if D.off = true then [] else preL p D.fs) ∧ SortedL l ∧ w'.ownsRow w.heap.size 9 1 v l.length (l.map Value.string) ∧ Below w.heap.size w w'
section
variable {lo : Nat} {w w' w'' : World} {r : Nat} {D E C : RM}
theorem RAt.list_off (h : RAt lo w r D) (p : ByteArray) (ho : D.off = true) : Calls Tryz.prog 75 #[.pointer (some ⟨r, 0, none⟩), .string p] w (ListM w D p) := by
 obtain ⟨⟨fa, fc, hlv⟩, _⟩ := h.sh
 have c0 : w.cell? ⟨r, 0, none⟩ = some (.slice fa D.fs.length fc) := by rw [← hlv]; exact h.cell 0
 have c2 : w.cell? ⟨r, 2, none⟩ = some (.bool true) := by rw [← ho]; exact h.cell 2
 have HQ : Hid (ListM w D p (.returned (.slice none 0 0)) w) := ⟨_, [], rfl, by rw [if_pos ho], List.Pairwise.nil, World.ownsRow_nil _ _ _ _, Below.refl _ _⟩
 clear h ho hlv
 generalize D.fs.length = n at *
 go_enter Tryz.func75, Tryz.ntmps75
 by_cases hn : 0 < n
 ·have b1 : decide ((0 : Int) < (n : Int)) = true := decide_eq_true (by omega)
  have b1' : decide (0 < n) = true := decide_eq_true hn
  go_wp2
  refine wp_loop_rounds 1 ?_
  rw [rounds_succ]
  go_wp2
  go_ret
  exact HQ.out
 ·have b1 : decide ((0 : Int) < (n : Int)) = false := decide_eq_false (by omega)
  have b1' : decide (0 < n) = false := decide_eq_false hn
  go_wp2
  refine wp_loop_rounds 1 ?_
  rw [rounds_succ]
  go_wp2
  go_ret
  exact HQ.out
theorem RAt.list (h : RAt lo w r D) (p : ByteArray) (ho : D.off = false) (hnm : ∀ f ∈ D.fs, f.name.size ≤ 1000) : Calls Tryz.prog 75 #[.pointer (some ⟨r, 0, none⟩), .string p] w (ListM w D p) := by
 obtain ⟨i1, hi1, hy0', hy1, hy2⟩ := info_parts infoStr9
 obtain ⟨fa, fc, hlv, hfc, hrow⟩ := h.files
 have hfew := h.few
 have HG : Hid (∀ X, Below w.heap.size w X → X.cell? ⟨r, 0, none⟩ = some (.slice fa D.fs.length fc) ∧ X.cell? ⟨r, 2, none⟩ = some (.bool false) ∧ ∀ i f, D.fs[i]? = some f → ∃ g, fa = some ⟨g, 0, none⟩ ∧ X.cell? ⟨g, i * 6, none⟩ = some (.string f.name)) := fun X hX => by
  have h2 := h.below hX
  obtain ⟨fa', fc', hlv', _, hrow'⟩ := h2.files
  rw [hlv] at hlv'
  obtain ⟨rfl, rfl⟩ : fa = fa' ∧ fc = fc' := by simpa using hlv'
  refine ⟨by rw [← hlv]; exact h2.cell 0, by rw [← ho]; exact h2.cell 2, fun i f hf => ?_⟩
  obtain ⟨g, q1, _, q2⟩ := hrow' i f hf
  exact ⟨g, q1, q2 0 _ rfl⟩
 have HFin : Hid (∀ W v l, l.Perm (preL p D.fs) → SortedL l → W.ownsRow w.heap.size 9 1 v l.length (l.map Value.string) → Below w.heap.size w W → ListM w D p (.returned v) W) := fun W v l h1 h2 h3 h4 => ⟨v, l, rfl, by rw [if_neg (by rw [ho]; decide)]; exact h1, h2, h3, h4⟩
 obtain ⟨fs, hfs⟩ : ∃ fs, fs = D.fs := ⟨_, rfl⟩
 simp only [← hfs] at HG HFin hfew hnm
 have HNm := Lib.hid hnm
 have hX0 := HG.out w (Below.refl _ _)
 obtain ⟨c0, c2, -⟩ := hX0
 clear h ho hlv hfc hrow hfs hnm
 go_enter Tryz.func75, Tryz.ntmps75
 go_wp2
 go_loopw [5, 6] (fun v vi wr => ∃ (i : Nat) (l : List ByteArray), i ≤ fs.length ∧ vi = .int .i64 i ∧ l.length ≤ i ∧ Hid (l.Perm (preL p (fs.take i)) ∧ SortedL l) ∧ ((l = [] ∧ v = .slice none 0 0) ∨ (0 < l.length ∧ ∃ g q, v = .slice (some ⟨g, 0, none⟩) l.length q ∧ l.length ≤ q)) ∧ Hid (Below w.heap.size w wr) ∧ Hid (wr.ownsRow w.heap.size 9 1 v l.length (l.map Value.string))) (fun v vi _ => fs.length - (RowKit.intOf vi).toNat)
 case atStart => exact ⟨0, [], Nat.zero_le _, rfl, Nat.le_refl _, ⟨List.Perm.refl _, List.Pairwise.nil⟩, .inl ⟨rfl, rfl⟩, Below.refl _ _, World.ownsRow_nil _ _ _ _⟩
 case round =>
  clear c0 c2
  obtain ⟨i, l, hi, rfl, hll, HL, hsh, HB, HO⟩ := hrel
  obtain ⟨c0, c2, hrow⟩ := HG.out _ HB.out
  by_cases hin : i < fs.length
  ·obtain ⟨f, hf⟩ : ∃ f, fs[i]? = some f := ⟨_, List.getElem?_eq_getElem hin⟩
   obtain ⟨gf, rfl, cf⟩ := hrow i f hf
   have hsz := HNm.out f (List.mem_of_getElem? hf)
   have hnx := preL_next (p := p) hf
   have HNx := Lib.hid hnx
   have b1 : decide ((i : Int) < (fs.length : Int)) = true := decide_eq_true (by omega)
   have b1' : decide (i < fs.length) = true := decide_eq_true hin
   have j0 : (0 : Int) ≤ (i : Int) := by omega
   have j1 : (i : Int) < (fs.length : Int) := by omega
   obtain ⟨s, hs⟩ : ∃ s, s = f.name := ⟨_, rfl⟩
   rw [← hs] at cf hsz HNx
   clear hnx hf hs hrow
   by_cases hp1 : s.size < p.size
   ·have e1 : decide ((s.size : Int) < (p.size : Int)) = true := decide_eq_true (by omega)
    have e1' : decide (s.size < p.size) = true := decide_eq_true hp1
    have HP : Hid (preB p s = false) := by unfold preB; rw [e1']; exact rfl
    clear hp1
    rcases hsh with ⟨rfl, rfl⟩ | ⟨hl0, g, q, rfl, hlq⟩
    ·go_wp2
     go_roundw
     case rel => exact ⟨i + 1, [], by omega, by go_num, Nat.zero_le _, by rw [HNx.out, if_neg (by rw [HP.out]; decide), List.append_nil]; exact HL.out, .inl ⟨rfl, rfl⟩, HB, HO⟩
     case measure => simp [RowKit.intOf]; omega
    ·go_wp2
     go_roundw
     case rel => exact ⟨i + 1, l, by omega, by go_num, by omega, by rw [HNx.out, if_neg (by rw [HP.out]; decide), List.append_nil]; exact HL.out, .inr ⟨hl0, g, q, rfl, hlq⟩, HB, HO⟩
     case measure => simp [RowKit.intOf]; omega
   ·have e1 : decide ((s.size : Int) < (p.size : Int)) = false := decide_eq_false (by omega)
    have e1' : decide (s.size < p.size) = false := decide_eq_false hp1
    have y0 : p.size ≤ s.size := by omega
    cases hp2 : ((s.extract 0 p.size).toList == p.toList) with
    | false =>
     have HP : Hid (preB p s = false) := by unfold preB; rw [e1', hp2]; exact rfl
     clear hp1
     rcases hsh with ⟨rfl, rfl⟩ | ⟨hl0, g, q, rfl, hlq⟩
     ·go_wp2
      go_roundw
      case rel => exact ⟨i + 1, [], by omega, by go_num, Nat.zero_le _, by rw [HNx.out, if_neg (by rw [HP.out]; decide), List.append_nil]; exact HL.out, .inl ⟨rfl, rfl⟩, HB, HO⟩
      case measure => simp [RowKit.intOf]; omega
     ·go_wp2
      go_roundw
      case rel => exact ⟨i + 1, l, by omega, by go_num, by omega, by rw [HNx.out, if_neg (by rw [HP.out]; decide), List.append_nil]; exact HL.out, .inr ⟨hl0, g, q, rfl, hlq⟩, HB, HO⟩
      case measure => simp [RowKit.intOf]; omega
    | true =>
     have HP : Hid (preB p s = true) := by unfold preB; rw [e1', hp2]; exact rfl
     clear hp1
     have HbA : Hid (Below wr.heap.size wr ((wr.alloc (.cells #[.string s] 9)).drew)) := (below_new _ _).drew
     have HbB : Hid (Below wr.heap.size wr wr.drew) := (Below.refl _ _).drew
     rcases hsh with ⟨rfl, rfl⟩ | ⟨hl0, g, q, rfl, hlq⟩
     ·have hsp := sorted_put (l := []) (s := s) (k := 0) List.Pairwise.nil (Nat.le_refl _) (fun j x hj => absurd hj (Nat.not_lt_zero _)) (fun x hx => by simp at hx)
      have HSP := Lib.hid hsp
      clear hsp
      go_wp2
      refine wp_loop_rounds 1 ?_
      rw [rounds_succ]
      go_wp2
      go_region_law (first
       | (refine step_app rfl (.const (.slice none 0 0)) (.tmp 62) 99 rfl wr.heap.size 9 i1 (.string ⟨#[]⟩) 1 16 Tryz.underlying99 hi1 hy0' hy1 hy2 rfl (by decide) (.slice none 0 0) 0 [] (by rfl) (World.ownsRow_nil _ _ _ _) none 0 0 ((([] : List ByteArray).take 0).map Value.string) (by simp [Act.eval, Act.put]) (by simp; try omega) (by intro A hA; cases hA) (fun _ => ⟨rfl, rfl⟩) (strs_one _) (by unfold maxLen; omega) (by omega) HbA.out.size ?_; intro p1 s1 w2 hown2 hgrow2 hat2; have HB2 : Hid (Below wr.heap.size wr w2) := HbA.out.trans (Below.mono (Fr.below (fr_grown hgrow2 (by intro k hk; cases hk))) HbA.out.size); have HS2 : Hid (w2.cell? ⟨wr.heap.size, 0, none⟩ = some (.string s)) := (by show w2.cell? _ = _; rw [(heap_ext ((Fr.below (fr_grown (S := fun _ => False) hgrow2 (by intro k hk; cases hk))).block wr.heap.size (by simp)) 0).1]; simp); have HO2 : Hid (w2.ownsRow wr.heap.size 9 1 (.slice p1 0 s1) 0 ((([] : List ByteArray).take 0).map Value.string)) := (by rw [Nat.zero_add, List.nil_append] at hown2; exact hown2); clear hown2 hgrow2 hat2)
       | (refine step_app rfl (.const (.slice none 0 0)) (.tmp 62) 99 rfl wr.heap.size 9 i1 (.string ⟨#[]⟩) 1 16 Tryz.underlying99 hi1 hy0' hy1 hy2 rfl (by decide) (.slice none 0 0) 0 [] (by rfl) (World.ownsRow_nil _ _ _ _) none 0 0 ((([] : List ByteArray).take 0).map Value.string) (by simp [Act.eval, Act.put]) (by simp; try omega) (by intro A hA; cases hA) (fun _ => ⟨rfl, rfl⟩) (strs_one _) (by unfold maxLen; omega) (by omega) HbB.out.size ?_; intro p1 s1 w2 hown2 hgrow2 hat2; have HB2 : Hid (Below wr.heap.size wr w2) := HbB.out.trans (Below.mono (Fr.below (fr_grown hgrow2 (by intro k hk; cases hk))) HbB.out.size); have HO2 : Hid (w2.ownsRow wr.heap.size 9 1 (.slice p1 0 s1) 0 ((([] : List ByteArray).take 0).map Value.string)) := (by rw [Nat.zero_add, List.nil_append] at hown2; exact hown2); clear hown2 hgrow2 hat2)
       | (refine step_app rfl (.tmp 63) (.tmp 65) 99 rfl wr.heap.size 9 i1 (.string ⟨#[]⟩) 1 16 Tryz.underlying99 hi1 hy0' hy1 hy2 rfl (by decide) (.slice p1 0 s1) 0 ((([] : List ByteArray).take 0).map Value.string) (by simp [Act.eval, Act.put]) HO2.out (some ⟨wr.heap.size, 0, none⟩) 1 1 [.string s] (by simp [Act.eval, Act.put]) rfl (by intro A hA j u hu; cases hA; cases j with | zero => (simp at hu; subst hu; rw [Go.WideShapes.add_plain]; exact HS2.out) | succ j => simp at hu) (by intro e; cases e) (by intro u hu; simp at hu; subst hu; rfl) (by unfold maxLen; omega) (by omega) HB2.out.size ?_; intro p2 s2 w3 hown3 hgrow3 hat3; have HB3 : Hid (Below wr.heap.size wr w3) := Fr.new HB2.out (fr_grown (S := fun q => (Value.slice p1 0 s1).ownBlock = some q) hgrow3 (fun q e => e)) (fun q e => (owned_at HO2.out e).1); have HO3 := Lib.hid hown3; clear hown3 hgrow3 hat3)
       | (refine step_app rfl (.tmp 63) (.tmp 65) 99 rfl wr.heap.size 9 i1 (.string ⟨#[]⟩) 1 16 Tryz.underlying99 hi1 hy0' hy1 hy2 rfl (by decide) (.slice p1 0 s1) 0 ((([] : List ByteArray).take 0).map Value.string) (by simp [Act.eval, Act.put]) (own_keep HO2.out (below_new _ _)) (some ⟨w2.heap.size, 0, none⟩) 1 1 [.string s] (by simp [Act.eval, Act.put]) rfl (by intro A hA; cases hA; exact cell_one_new _ _ _) (by intro e; cases e) (by intro u hu; simp at hu; subst hu; rfl) (by unfold maxLen; omega) (by omega) (thenBelow HB2.out (below_new _ _)).size ?_; intro p2 s2 w3 hown3 hgrow3 hat3; have HB3 : Hid (Below wr.heap.size wr w3) := Fr.new (thenBelow HB2.out (below_new _ _)) (fr_grown (S := fun q => (Value.slice p1 0 s1).ownBlock = some q) hgrow3 (fun q e => e)) (fun q e => (owned_at HO2.out e).1); have HO3 := Lib.hid hown3; clear hown3 hgrow3 hat3)
       | (refine step_app rfl (.tmp 66) (.tmp 69) 99 rfl wr.heap.size 9 i1 (.string ⟨#[]⟩) 1 16 Tryz.underlying99 hi1 hy0' hy1 hy2 rfl (by decide) (.slice p2 (0 + 1) s2) (0 + 1) ((([] : List ByteArray).take 0).map Value.string ++ [.string s]) (by simp [Act.eval, Act.put]) HO3.out none 0 0 ((([] : List ByteArray).drop 0).map Value.string) (by simp [Act.eval, Act.put]) (by simp) (by intro A hA; cases hA) (fun _ => ⟨rfl, rfl⟩) (strs_one _) (by unfold maxLen; omega) (by omega) HB3.out.size ?_; intro p5 s5 w4 hown4 hgrow4 hat4; have HB4 : Hid (Below wr.heap.size wr w4) := Fr.new HB3.out (fr_grown (S := fun q => (Value.slice p2 (0 + 1 : Nat) s2).ownBlock = some q) hgrow4 (fun q e => e)) (fun q e => (owned_at HO3.out e).1); have HO4 := Lib.hid hown4; clear hown4 hgrow4 hat4))
      all_goals
       go_wp2
       go_roundw
       case rel =>
        obtain ⟨g5, c5, e5, hc5, -, -⟩ := owns_form HO4.out (by omega)
        obtain ⟨rfl, rfl⟩ : p5 = some ⟨g5, 0, none⟩ ∧ s5 = c5 := by simpa using e5
        have hlen : (([] : List ByteArray).take 0 ++ [s] ++ ([] : List ByteArray).drop 0).length = 0 + 1 + 0 := by simp; try omega
        refine ⟨i + 1, ([] : List ByteArray).take 0 ++ [s] ++ ([] : List ByteArray).drop 0, by omega, by go_num, by rw [hlen]; omega, ⟨?_, HSP.out.1⟩, .inr ⟨by rw [hlen]; omega, g5, s5, by rw [hlen], by rw [hlen]; omega⟩, thenBelow HB.out HB4.out, ?_⟩
        ·rw [HNx.out, if_pos HP.out]
         exact HSP.out.2.trans (List.Perm.append_right _ HL.out.1)
        ·rw [hlen, List.map_append, List.map_append]
         exact own_le HO4.out HB.out.size
       case measure => simp [RowKit.intOf]; omega
     ·have HGc : Hid (∀ (k : Nat), k ≤ l.length → ∀ X, Below wr.heap.size wr X → (∀ A, some (⟨g, 0, none⟩ : Addr) = some A → ∀ (j : Nat) (u : Value), ((l.take k).map Value.string)[j]? = some u → X.cell? (A.add j) = some u) ∧ (∀ A, (if q = k then some (⟨g, 0, none⟩ : Addr) else some ⟨g, k, none⟩) = some A → ∀ (j : Nat) (u : Value), ((l.drop k).map Value.string)[j]? = some u → X.cell? (A.add j) = some u)) := fun k hk X hX => by
       have h9 := own_keep HO.out hX
       have key : ∀ (j : Nat) (u : Value), (l.map Value.string)[j]? = some u → X.cell? ⟨g, j, none⟩ = some u := fun j u hj => by
        have := h9.cells (show (Value.slice (some ⟨g, 0, none⟩) l.length q).ownBlock = some g from rfl) j u hj
        rwa [Go.WideShapes.add_plain, Nat.zero_add] at this
       refine ⟨fun A hA j u hu => ?_, fun A hA j u hu => ?_⟩
       ·cases hA
        rw [Go.WideShapes.add_plain, Nat.zero_add]
        refine key j u ?_
        rw [List.map_take] at hu
        have hj := (List.getElem?_eq_some_iff.1 hu).1
        rw [List.length_take] at hj
        rwa [List.getElem?_take_of_lt (by omega)] at hu
       ·have hj := (List.getElem?_eq_some_iff.1 hu).1
        rw [List.length_map, List.length_drop] at hj
        rw [if_neg (by omega)] at hA
        obtain rfl := Option.some.inj hA
        rw [Go.WideShapes.add_plain]
        refine key _ u ?_
        rwa [List.map_drop, List.getElem?_drop] at hu
      have HGs := Lib.hid (fun k hk => HGc.out k hk)
      clear HGc
      go_wp2
      go_loop [8] (fun vk => ∃ k : Nat, k ≤ l.length ∧ vk = .int .i64 k ∧ Hid (∀ (j : Nat) (x : ByteArray), j < k → l[j]? = some x → Op.bytesLess x.toList s.toList = true)) (fun vk => l.length - (RowKit.intOf vk).toNat)
      case atStart => exact ⟨0, Nat.zero_le _, rfl, fun j x hj => absurd hj (Nat.not_lt_zero _)⟩
      case round =>
       obtain ⟨k, hk, rfl, HLt⟩ := hrel
       have HGc : Hid _ := Lib.hid (HGs.out k hk)
       by_cases hkl : k < l.length
       ·obtain ⟨x, hx⟩ : ∃ x, l[k]? = some x := ⟨_, List.getElem?_eq_getElem hkl⟩
        have cx : wr.cell? ⟨g, k, none⟩ = some (.string x) := by
         have := HO.out.cells (show (Value.slice (some ⟨g, 0, none⟩) l.length q).ownBlock = some g from rfl) k (.string x) (by rw [List.getElem?_map, hx]; rfl)
         rwa [Go.WideShapes.add_plain, Nat.zero_add] at this
        have d1 : decide ((k : Int) < (l.length : Int)) = true := decide_eq_true (by omega)
        have d1' : decide (k < l.length) = true := decide_eq_true hkl
        have t0 : (0 : Int) ≤ (k : Int) := by omega
        have t1 : (k : Int) < (l.length : Int) := by omega
        have t2 : (k : Int) ≤ (l.length : Int) := by omega
        have t3 : (l.length : Int) ≤ (q : Int) := by omega
        have t4 : (k : Int) ≤ (q : Int) := by omega
        cases hb : Op.bytesLess x.toList s.toList with
        | true =>
         have HLt2 : Hid (∀ (j : Nat) (y : ByteArray), j < k + 1 → l[j]? = some y → Op.bytesLess y.toList s.toList = true) := fun j y hj hy => by
          by_cases e : j = k
          ·subst e
           rw [hx] at hy
           cases hy
           exact hb
          ·exact HLt.out j y (by omega) hy
         clear hx
         go_wp2
         go_round
         case rel => exact ⟨k + 1, by omega, by go_num, HLt2⟩
         case measure => simp [RowKit.intOf]; omega
        | false =>
         have hsp := sorted_put (s := s) HL.out.2 hk HLt.out (fun y hy => by rw [hx] at hy; cases hy; exact hb)
         have HSP := Lib.hid hsp
         clear hsp hx
         go_wp2
         go_region_law (first
          | (refine step_app rfl (.const (.slice none 0 0)) (.tmp 62) 99 rfl wr.heap.size 9 i1 (.string ⟨#[]⟩) 1 16 Tryz.underlying99 hi1 hy0' hy1 hy2 rfl (by decide) (.slice none 0 0) 0 [] (by rfl) (World.ownsRow_nil _ _ _ _) (some ⟨g, 0, none⟩) k q ((l.take k).map Value.string) (by simp [Act.eval, Act.put]) (by simp; try omega) (HGc.out _ HbA.out).1 (by intro e; cases e) (strs_one _) (by unfold maxLen; omega) (by omega) HbA.out.size ?_; intro p1 s1 w2 hown2 hgrow2 hat2; have HB2 : Hid (Below wr.heap.size wr w2) := HbA.out.trans (Below.mono (Fr.below (fr_grown hgrow2 (by intro k hk; cases hk))) HbA.out.size); have HS2 : Hid (w2.cell? ⟨wr.heap.size, 0, none⟩ = some (.string s)) := (by show w2.cell? _ = _; rw [(heap_ext ((Fr.below (fr_grown (S := fun _ => False) hgrow2 (by intro k hk; cases hk))).block wr.heap.size (by simp)) 0).1]; simp); have HO2 : Hid (w2.ownsRow wr.heap.size 9 1 (.slice p1 k s1) k ((l.take k).map Value.string)) := (by rw [Nat.zero_add, List.nil_append] at hown2; exact hown2); clear hown2 hgrow2 hat2)
          | (refine step_app rfl (.const (.slice none 0 0)) (.tmp 62) 99 rfl wr.heap.size 9 i1 (.string ⟨#[]⟩) 1 16 Tryz.underlying99 hi1 hy0' hy1 hy2 rfl (by decide) (.slice none 0 0) 0 [] (by rfl) (World.ownsRow_nil _ _ _ _) (some ⟨g, 0, none⟩) k q ((l.take k).map Value.string) (by simp [Act.eval, Act.put]) (by simp; try omega) (HGc.out _ HbB.out).1 (by intro e; cases e) (strs_one _) (by unfold maxLen; omega) (by omega) HbB.out.size ?_; intro p1 s1 w2 hown2 hgrow2 hat2; have HB2 : Hid (Below wr.heap.size wr w2) := HbB.out.trans (Below.mono (Fr.below (fr_grown hgrow2 (by intro k hk; cases hk))) HbB.out.size); have HO2 : Hid (w2.ownsRow wr.heap.size 9 1 (.slice p1 k s1) k ((l.take k).map Value.string)) := (by rw [Nat.zero_add, List.nil_append] at hown2; exact hown2); clear hown2 hgrow2 hat2)
          | (refine step_app rfl (.tmp 63) (.tmp 65) 99 rfl wr.heap.size 9 i1 (.string ⟨#[]⟩) 1 16 Tryz.underlying99 hi1 hy0' hy1 hy2 rfl (by decide) (.slice p1 k s1) k ((l.take k).map Value.string) (by simp [Act.eval, Act.put]) HO2.out (some ⟨wr.heap.size, 0, none⟩) 1 1 [.string s] (by simp [Act.eval, Act.put]) rfl (by intro A hA j u hu; cases hA; cases j with | zero => (simp at hu; subst hu; rw [Go.WideShapes.add_plain]; exact HS2.out) | succ j => simp at hu) (by intro e; cases e) (by intro u hu; simp at hu; subst hu; rfl) (by unfold maxLen; omega) (by omega) HB2.out.size ?_; intro p2 s2 w3 hown3 hgrow3 hat3; have HB3 : Hid (Below wr.heap.size wr w3) := Fr.new HB2.out (fr_grown (S := fun q => (Value.slice p1 k s1).ownBlock = some q) hgrow3 (fun q e => e)) (fun q e => (owned_at HO2.out e).1); have HO3 := Lib.hid hown3; clear hown3 hgrow3 hat3)
          | (refine step_app rfl (.tmp 63) (.tmp 65) 99 rfl wr.heap.size 9 i1 (.string ⟨#[]⟩) 1 16 Tryz.underlying99 hi1 hy0' hy1 hy2 rfl (by decide) (.slice p1 k s1) k ((l.take k).map Value.string) (by simp [Act.eval, Act.put]) (own_keep HO2.out (below_new _ _)) (some ⟨w2.heap.size, 0, none⟩) 1 1 [.string s] (by simp [Act.eval, Act.put]) rfl (by intro A hA; cases hA; exact cell_one_new _ _ _) (by intro e; cases e) (by intro u hu; simp at hu; subst hu; rfl) (by unfold maxLen; omega) (by omega) (thenBelow HB2.out (below_new _ _)).size ?_; intro p2 s2 w3 hown3 hgrow3 hat3; have HB3 : Hid (Below wr.heap.size wr w3) := Fr.new (thenBelow HB2.out (below_new _ _)) (fr_grown (S := fun q => (Value.slice p1 k s1).ownBlock = some q) hgrow3 (fun q e => e)) (fun q e => (owned_at HO2.out e).1); have HO3 := Lib.hid hown3; clear hown3 hgrow3 hat3)
          | (refine step_app rfl (.tmp 66) (.tmp 69) 99 rfl wr.heap.size 9 i1 (.string ⟨#[]⟩) 1 16 Tryz.underlying99 hi1 hy0' hy1 hy2 rfl (by decide) (.slice p2 (k + 1) s2) (k + 1) ((l.take k).map Value.string ++ [.string s]) (by simp [Act.eval, Act.put]) HO3.out (if q = k then some (⟨g, 0, none⟩ : Addr) else some ⟨g, k, none⟩) (l.length - k) (q - k) ((l.drop k).map Value.string) (by simp [Act.eval, Act.put]) (by simp) (HGc.out _ HB3.out).2 (by intro e; split at e <;> cases e) (strs_one _) (by unfold maxLen; omega) (by omega) HB3.out.size ?_; intro p5 s5 w4 hown4 hgrow4 hat4; have HB4 : Hid (Below wr.heap.size wr w4) := Fr.new HB3.out (fr_grown (S := fun q => (Value.slice p2 (k + 1 : Nat) s2).ownBlock = some q) hgrow4 (fun q e => e)) (fun q e => (owned_at HO3.out e).1); have HO4 := Lib.hid hown4; clear hown4 hgrow4 hat4))
         all_goals
          go_wp2
          go_roundw
          case rel =>
           obtain ⟨g5, c5, e5, hc5, -, -⟩ := owns_form HO4.out (by omega)
           obtain ⟨rfl, rfl⟩ : p5 = some ⟨g5, 0, none⟩ ∧ s5 = c5 := by simpa using e5
           have hlen : (l.take k ++ [s] ++ l.drop k).length = k + 1 + (l.length - k) := by simp; try omega
           refine ⟨i + 1, l.take k ++ [s] ++ l.drop k, by omega, by go_num, by rw [hlen]; omega, ⟨?_, HSP.out.1⟩, .inr ⟨by rw [hlen]; omega, g5, s5, by rw [hlen], by rw [hlen]; omega⟩, thenBelow HB.out HB4.out, ?_⟩
           ·rw [HNx.out, if_pos HP.out]
            exact HSP.out.2.trans (List.Perm.append_right _ HL.out.1)
           ·rw [hlen, List.map_append, List.map_append]
            exact own_le HO4.out HB.out.size
          case measure => simp [RowKit.intOf]; omega
       ·have d1 : decide ((k : Int) < (l.length : Int)) = false := decide_eq_false (by omega)
        have d1' : decide (k < l.length) = false := decide_eq_false hkl
        have t0 : (0 : Int) ≤ (k : Int) := by omega
        have t2 : (k : Int) ≤ (l.length : Int) := by omega
        have t3 : (l.length : Int) ≤ (q : Int) := by omega
        have t4 : (k : Int) ≤ (q : Int) := by omega
        have hsp := sorted_put (s := s) HL.out.2 hk HLt.out (fun y hy => by rw [List.getElem?_eq_none (by omega)] at hy; cases hy)
        have HSP := Lib.hid hsp
        clear hsp
        go_wp2
        go_region_law (first
         | (refine step_app rfl (.const (.slice none 0 0)) (.tmp 62) 99 rfl wr.heap.size 9 i1 (.string ⟨#[]⟩) 1 16 Tryz.underlying99 hi1 hy0' hy1 hy2 rfl (by decide) (.slice none 0 0) 0 [] (by rfl) (World.ownsRow_nil _ _ _ _) (some ⟨g, 0, none⟩) k q ((l.take k).map Value.string) (by simp [Act.eval, Act.put]) (by simp; try omega) (HGc.out _ HbA.out).1 (by intro e; cases e) (strs_one _) (by unfold maxLen; omega) (by omega) HbA.out.size ?_; intro p1 s1 w2 hown2 hgrow2 hat2; have HB2 : Hid (Below wr.heap.size wr w2) := HbA.out.trans (Below.mono (Fr.below (fr_grown hgrow2 (by intro k hk; cases hk))) HbA.out.size); have HS2 : Hid (w2.cell? ⟨wr.heap.size, 0, none⟩ = some (.string s)) := (by show w2.cell? _ = _; rw [(heap_ext ((Fr.below (fr_grown (S := fun _ => False) hgrow2 (by intro k hk; cases hk))).block wr.heap.size (by simp)) 0).1]; simp); have HO2 : Hid (w2.ownsRow wr.heap.size 9 1 (.slice p1 k s1) k ((l.take k).map Value.string)) := (by rw [Nat.zero_add, List.nil_append] at hown2; exact hown2); clear hown2 hgrow2 hat2)
         | (refine step_app rfl (.const (.slice none 0 0)) (.tmp 62) 99 rfl wr.heap.size 9 i1 (.string ⟨#[]⟩) 1 16 Tryz.underlying99 hi1 hy0' hy1 hy2 rfl (by decide) (.slice none 0 0) 0 [] (by rfl) (World.ownsRow_nil _ _ _ _) (some ⟨g, 0, none⟩) k q ((l.take k).map Value.string) (by simp [Act.eval, Act.put]) (by simp; try omega) (HGc.out _ HbB.out).1 (by intro e; cases e) (strs_one _) (by unfold maxLen; omega) (by omega) HbB.out.size ?_; intro p1 s1 w2 hown2 hgrow2 hat2; have HB2 : Hid (Below wr.heap.size wr w2) := HbB.out.trans (Below.mono (Fr.below (fr_grown hgrow2 (by intro k hk; cases hk))) HbB.out.size); have HO2 : Hid (w2.ownsRow wr.heap.size 9 1 (.slice p1 k s1) k ((l.take k).map Value.string)) := (by rw [Nat.zero_add, List.nil_append] at hown2; exact hown2); clear hown2 hgrow2 hat2)
         | (refine step_app rfl (.tmp 63) (.tmp 65) 99 rfl wr.heap.size 9 i1 (.string ⟨#[]⟩) 1 16 Tryz.underlying99 hi1 hy0' hy1 hy2 rfl (by decide) (.slice p1 k s1) k ((l.take k).map Value.string) (by simp [Act.eval, Act.put]) HO2.out (some ⟨wr.heap.size, 0, none⟩) 1 1 [.string s] (by simp [Act.eval, Act.put]) rfl (by intro A hA j u hu; cases hA; cases j with | zero => (simp at hu; subst hu; rw [Go.WideShapes.add_plain]; exact HS2.out) | succ j => simp at hu) (by intro e; cases e) (by intro u hu; simp at hu; subst hu; rfl) (by unfold maxLen; omega) (by omega) HB2.out.size ?_; intro p2 s2 w3 hown3 hgrow3 hat3; have HB3 : Hid (Below wr.heap.size wr w3) := Fr.new HB2.out (fr_grown (S := fun q => (Value.slice p1 k s1).ownBlock = some q) hgrow3 (fun q e => e)) (fun q e => (owned_at HO2.out e).1); have HO3 := Lib.hid hown3; clear hown3 hgrow3 hat3)
         | (refine step_app rfl (.tmp 63) (.tmp 65) 99 rfl wr.heap.size 9 i1 (.string ⟨#[]⟩) 1 16 Tryz.underlying99 hi1 hy0' hy1 hy2 rfl (by decide) (.slice p1 k s1) k ((l.take k).map Value.string) (by simp [Act.eval, Act.put]) (own_keep HO2.out (below_new _ _)) (some ⟨w2.heap.size, 0, none⟩) 1 1 [.string s] (by simp [Act.eval, Act.put]) rfl (by intro A hA; cases hA; exact cell_one_new _ _ _) (by intro e; cases e) (by intro u hu; simp at hu; subst hu; rfl) (by unfold maxLen; omega) (by omega) (thenBelow HB2.out (below_new _ _)).size ?_; intro p2 s2 w3 hown3 hgrow3 hat3; have HB3 : Hid (Below wr.heap.size wr w3) := Fr.new (thenBelow HB2.out (below_new _ _)) (fr_grown (S := fun q => (Value.slice p1 k s1).ownBlock = some q) hgrow3 (fun q e => e)) (fun q e => (owned_at HO2.out e).1); have HO3 := Lib.hid hown3; clear hown3 hgrow3 hat3)
         | (refine step_app rfl (.tmp 66) (.tmp 69) 99 rfl wr.heap.size 9 i1 (.string ⟨#[]⟩) 1 16 Tryz.underlying99 hi1 hy0' hy1 hy2 rfl (by decide) (.slice p2 (k + 1) s2) (k + 1) ((l.take k).map Value.string ++ [.string s]) (by simp [Act.eval, Act.put]) HO3.out (if q = k then some (⟨g, 0, none⟩ : Addr) else some ⟨g, k, none⟩) (l.length - k) (q - k) ((l.drop k).map Value.string) (by simp [Act.eval, Act.put]) (by simp) (HGc.out _ HB3.out).2 (by intro e; split at e <;> cases e) (strs_one _) (by unfold maxLen; omega) (by omega) HB3.out.size ?_; intro p5 s5 w4 hown4 hgrow4 hat4; have HB4 : Hid (Below wr.heap.size wr w4) := Fr.new HB3.out (fr_grown (S := fun q => (Value.slice p2 (k + 1 : Nat) s2).ownBlock = some q) hgrow4 (fun q e => e)) (fun q e => (owned_at HO3.out e).1); have HO4 := Lib.hid hown4; clear hown4 hgrow4 hat4))
        all_goals
         go_wp2
         go_roundw
         case rel =>
          obtain ⟨g5, c5, e5, hc5, -, -⟩ := owns_form HO4.out (by omega)
          obtain ⟨rfl, rfl⟩ : p5 = some ⟨g5, 0, none⟩ ∧ s5 = c5 := by simpa using e5
          have hlen : (l.take k ++ [s] ++ l.drop k).length = k + 1 + (l.length - k) := by simp; try omega
          refine ⟨i + 1, l.take k ++ [s] ++ l.drop k, by omega, by go_num, by rw [hlen]; omega, ⟨?_, HSP.out.1⟩, .inr ⟨by rw [hlen]; omega, g5, s5, by rw [hlen], by rw [hlen]; omega⟩, thenBelow HB.out HB4.out, ?_⟩
          ·rw [HNx.out, if_pos HP.out]
           exact HSP.out.2.trans (List.Perm.append_right _ HL.out.1)
          ·rw [hlen, List.map_append, List.map_append]
           exact own_le HO4.out HB.out.size
         case measure => simp [RowKit.intOf]; omega
  ·obtain rfl : i = fs.length := by omega
   have b1 : decide ((fs.length : Int) < (fs.length : Int)) = false := decide_eq_false (by omega)
   have hl := HL.out
   rw [List.take_of_length_le (Nat.le_refl _)] at hl
   rcases hsh with ⟨rfl, rfl⟩ | ⟨hl0, g, q, rfl, hlq⟩
   ·have HQ := Lib.hid (HFin.out wr _ _ hl.1 hl.2 HO.out HB.out)
    clear hl
    go_wp2
    go_ret
    exact HQ.out
   ·have HQ := Lib.hid (HFin.out wr _ _ hl.1 hl.2 HO.out HB.out)
    clear hl
    go_wp2
    go_ret
    exact HQ.out
end
end Go.Proofs.YtbkngnjkaledlaaGreat.P4
