/-
  Texts of the proof of SaidPlay8b.
-/
import Derived.Test.YtbkngnjkaledlaaGreatMp25
import Derived.Lib.BufSteps
set_option maxRecDepth 100000
namespace Go.Proofs.YtbkngnjkaledlaaGreat.P3
open Go Go.RowKit Go.Lib Go.Maps Go.ChangeMaps Go.MapKept P4
theorem cellsOp4 : Tryz.prog.cellsOf 43 = 7 := by kernel_rfl
theorem cellsStr4 : Tryz.prog.cellsOf 9 = 1 := by kernel_rfl
theorem cellsBool4 : Tryz.prog.cellsOf 4 = 1 := by kernel_rfl
theorem cellsInts4 : Tryz.prog.cellsOf 29 = 1 := by kernel_rfl
structure ActOk (w : World) (o : OpV) : Prop where
 S : o.S.size ≤ maxLen
 T : o.T.size ≤ maxLen
 L : IntsIn w (.slice o.a o.L.length o.c) o.L
 wA : (Lit.int .i64 o.A).wf = true
 wB : (Lit.int .i64 o.B).wf = true
 nil : o.a = none → o.L.length = 0 ∧ o.c = 0
section
variable {H : Type} {enc : TypeId × Value → H} {w : World} {base : Nat} {sp : Nat → Bool} {held : Bool}
theorem act_open {n : Nat} {cs : List Value} {x : DataW H × List MemPlace} (h : DataW.trod enc Tryz.prog w base sp held n 43 cs = some x) : ∃ o : OpV, cs = o.cells.toList ∧ ActOk w o := by
 obtain ⟨xs, m, _, _, hl, hxl, hf⟩ := DataW.trod_struct Tryz.underlying43 h
 rw [cellsOp4] at hl
 match cs, hl with
 | [c0, c1, c2, c3, c4, c5, c6], _ =>
  have hx : ∀ i, i < 7 → ∃ y, xs[i]? = some y := fun i hi => ⟨_, List.getElem?_eq_getElem (by rw [hxl]; exact hi)⟩
  obtain ⟨y0, e0⟩ := hx 0 (by omega)
  obtain ⟨y1, e1⟩ := hx 1 (by omega)
  obtain ⟨y2, e2⟩ := hx 2 (by omega)
  obtain ⟨y3, e3⟩ := hx 3 (by omega)
  obtain ⟨y4, e4⟩ := hx 4 (by omega)
  obtain ⟨y5, e5⟩ := hx 5 (by omega)
  obtain ⟨y6, e6⟩ := hx 6 (by omega)
  have f0 : DataW.trod enc Tryz.prog w base sp held m 3 (([c0, c1, c2, c3, c4, c5, c6].drop 0).take (Tryz.prog.cellsOf 3)) = some y0 := (hf 0 _ rfl).trans e0
  have f1 : DataW.trod enc Tryz.prog w base sp held m 9 (([c0, c1, c2, c3, c4, c5, c6].drop 1).take (Tryz.prog.cellsOf 9)) = some y1 := (hf 1 _ rfl).trans e1
  have f2 : DataW.trod enc Tryz.prog w base sp held m 9 (([c0, c1, c2, c3, c4, c5, c6].drop 2).take (Tryz.prog.cellsOf 9)) = some y2 := (hf 2 _ rfl).trans e2
  have f3 : DataW.trod enc Tryz.prog w base sp held m 3 (([c0, c1, c2, c3, c4, c5, c6].drop 3).take (Tryz.prog.cellsOf 3)) = some y3 := (hf 3 _ rfl).trans e3
  have f4 : DataW.trod enc Tryz.prog w base sp held m 3 (([c0, c1, c2, c3, c4, c5, c6].drop 4).take (Tryz.prog.cellsOf 3)) = some y4 := (hf 4 _ rfl).trans e4
  have f5 : DataW.trod enc Tryz.prog w base sp held m 4 (([c0, c1, c2, c3, c4, c5, c6].drop 5).take (Tryz.prog.cellsOf 4)) = some y5 := (hf 5 _ rfl).trans e5
  have f6 : DataW.trod enc Tryz.prog w base sp held m 29 (([c0, c1, c2, c3, c4, c5, c6].drop 6).take (Tryz.prog.cellsOf 29)) = some y6 := (hf 6 _ rfl).trans e6
  rw [cellsInt] at f0 f3 f4
  rw [cellsStr4] at f1 f2
  rw [cellsBool4] at f5
  rw [cellsInts4] at f6
  obtain ⟨k, g0, _, w0⟩ := DataW.trod_int Tryz.underlying3 f0
  obtain ⟨s, g1, _, w1⟩ := DataW.trod_string Tryz.underlying9 f1
  obtain ⟨t, g2, _, w2⟩ := DataW.trod_string Tryz.underlying9 f2
  obtain ⟨p, g3, _, w3⟩ := DataW.trod_int Tryz.underlying3 f3
  obtain ⟨q, g4, _, w4⟩ := DataW.trod_int Tryz.underlying3 f4
  obtain ⟨b, g5, _⟩ := DataW.trod_bool Tryz.underlying4 f5
  obtain ⟨l, hlk⟩ := ints_openK (v := c6) f6
  have hl := hlk.1
  obtain rfl : c0 = .int .i64 k := by simpa using g0
  obtain rfl : c1 = .string s := by simpa using g1
  obtain rfl : c2 = .string t := by simpa using g2
  obtain rfl : c3 = .int .i64 p := by simpa using g3
  obtain rfl : c4 = .int .i64 q := by simpa using g4
  obtain rfl : c5 = .bool b := by simpa using g5
  have hl2 := hl
  obtain ⟨a, c, rfl, _⟩ := hl2
  refine ⟨⟨k, s, t, p, q, b, a, c, l⟩, rfl, ⟨w1, w2, hl, w3, w4, fun ha => ?_⟩⟩
  have ha' : a = none := ha
  subst ha'
  rcases hlk.2 with e | ⟨a', n', c', e⟩
  ·simp only [Value.slice.injEq] at e; exact ⟨e.2.1, e.2.2⟩
  ·simp at e
def ActsIn (w : World) (v : Value) (l : List OpV) : Prop :=
 ∃ a c, v = .slice a l.length c ∧ l.length ≤ 9223372036854775807 ∧ (0 < l.length → ∃ b off, a = some ⟨b, off, none⟩ ∧ b < w.heap.size ∧ ∀ i (o : OpV), l[i]? = some o → (∀ j u, o.cells.toList[j]? = some u → w.cell? ⟨b, off + i * 7 + j, none⟩ = some u) ∧ ActOk w o)
end
theorem ActOk.below {w w' : World} {o : OpV} (h : ActOk w o) (hb : Below w.heap.size w w') : ActOk w' o := ⟨h.S, h.T, h.L.below hb, h.wA, h.wB, h.nil⟩
end Go.Proofs.YtbkngnjkaledlaaGreat.P3
namespace Go.Proofs.YtbkngnjkaledlaaGreat.P4
open Go Go.RowKit Go.Lib P3
theorem infoInt9 : (Tryz.prog.info? 3).map (fun i => (i.zero, i.size, i.bytes)) = some (some (.int .i64 0), 1, 8) := by kernel_rfl
theorem copyInts_any (w : World) (a : Option Addr) (c : Nat) (l : List Int) (h : IntsIn w (.slice a l.length c) l) (hnil : a = none → l.length = 0 ∧ c = 0) (hl : l.length ≤ 1000000) :
  Calls Tryz.prog 102 #[.slice a l.length c] w fun e w' => ∃ p q, e = .returned (.slice p l.length q) ∧ w'.ownsRow w.heap.size 3 1 (.slice p l.length q) l.length (l.map (Value.int .i64)) ∧ Below w.heap.size w w' := by
 obtain ⟨i0, hi, hz0, hz1, hz2⟩ := info_parts infoInt9
 obtain ⟨a', c', e, _, hc⟩ := h
 obtain ⟨rfl, rfl⟩ : a = a' ∧ c = c' := by simpa using e
 have hnews : Hid (∀ A, a = some A → ∀ j u, (l.map (Value.int .i64))[j]? = some u → w.cell? (A.add j) = some u) := fun A hA j u hu => by
  have hj : j < l.length := by
   have := (List.getElem?_eq_some_iff.1 hu).1
   simpa using this
  obtain ⟨b, off, h, _, hcc⟩ := hc (by omega)
  rw [hA] at h
  obtain rfl : A = ⟨b, off, none⟩ := by simpa using h
  rw [Go.WideShapes.add_plain, hcc j hj]
  rw [List.getElem?_map] at hu
  rw [List.getD_eq_getElem?_getD]
  obtain ⟨x, hx, rfl⟩ := Option.map_eq_some_iff.1 hu
  rw [hx]
  rfl
 clear hc e
 go_enter Tryz.func102, Tryz.ntmps102
 go_wp2_with (at_builtin; refine wpList_app rfl _ _ 29 rfl w.heap.size 3 i0 (.int .i64 0) 1 8 Tryz.underlying29 hi hz0 hz1 hz2 rfl (by decide) (.slice none 0 0) 0 [] rfl (World.ownsRow_nil _ _ _ _) a l.length c (l.map (Value.int .i64)) rfl (by simp) hnews.out hnil (by intro u hu; simp at hu; obtain ⟨s, _, rfl⟩ := hu; rfl) (by unfold maxLen; omega) (by omega) (Nat.le_refl _) ?_; intro p q w2 hown hgrow hat; have HB : Hid (Below w.heap.size w w2) := Fr.below (fr_grown hgrow (by intro k hk; cases hk)); have HO : Hid (w2.ownsRow w.heap.size 3 1 (.slice p l.length q) l.length (l.map (Value.int .i64))) := (by rw [Nat.zero_add, List.nil_append] at hown; exact hown); clear hown hgrow hat)
 go_ret
 exact ⟨p, q, by first | rfl | simp, HO.out, HB.out⟩
def LentI (lo : Nat) (w : World) (v : Value) (l : List Int) : Prop :=
 ∃ g c, v = .slice (some ⟨g, 0, none⟩) l.length c ∧ l.length + 1 ≤ c ∧ c ≤ 9223372036854775807 ∧ lo ≤ g ∧ g < w.heap.size ∧ (∀ (i : Nat) (x : Int), l[i]? = some x → w.cell? ⟨g, i, none⟩ = some (.int .i64 x)) ∧ w.cell? ⟨g, l.length, none⟩ = some (.int .i64 (-77))
theorem LentI.fr {S : Nat → Prop} {lo : Nat} {w w' : World} {v : Value} {l : List Int} (h : LentI lo w v l) (hf : Fr S w w') (hS : ∀ k, lo ≤ k → ¬ S k) : LentI lo w' v l := by
 obtain ⟨g, c, h1, h2, h3, h0, h4, h5, h6⟩ := h
 have e := hf.block g h4 (hS g h0)
 exact ⟨g, c, h1, h2, h3, h0, Nat.lt_of_lt_of_le h4 hf.size, fun i x hi => by rw [(heap_ext e i).1]; exact h5 i x hi, by rw [(heap_ext e l.length).1]; exact h6⟩
theorem LentI.below {lo : Nat} {w w' : World} {v : Value} {l : List Int} (h : LentI lo w v l) (hb : Below w.heap.size w w') : LentI lo w' v l := h.fr (Fr.of (S := fun _ => False) hb) fun _ _ => id
theorem LentI.ints {lo : Nat} {w : World} {v : Value} {l : List Int} (h : LentI lo w v l) (hl : l.length ≤ 1000000) : IntsIn w v l := by
 obtain ⟨g, c, h1, h2, h3, h0, h4, h5, h6⟩ := h
 exact ⟨_, c, h1, by omega, fun _ => ⟨g, 0, rfl, h4, fun i hi => by rw [Nat.zero_add, h5 i l[i] (List.getElem?_eq_getElem hi), List.getD_eq_getElem?_getD, List.getElem?_eq_getElem hi]; rfl⟩⟩
theorem LentI.intsR {lo : Nat} {S : Nat → Prop} {w : World} {v : Value} {l : List Int} (h : LentI lo w v l) (hS : ∀ k, lo ≤ k → ¬ S k) : IntsR S w v l := by
 obtain ⟨g, c, h1, h2, h3, h0, h4, h5, h6⟩ := h
 exact .inr ⟨g, 0, c, h1, h4, hS g h0, fun j x hj => by rw [Nat.zero_add]; exact h5 j x hj⟩
theorem lentInts_any (w : World) (a : Option Addr) (c : Nat) (l : List Int) (h : IntsIn w (.slice a l.length c) l) (hnil : a = none → l.length = 0 ∧ c = 0) (hl : l.length ≤ 1000000) :
  Calls Tryz.prog 59 #[.slice a l.length c] w fun e w' => ∃ g q, e = .returned (.slice (some ⟨g, 0, none⟩) l.length q) ∧ LentI w.heap.size w' (.slice (some ⟨g, 0, none⟩) l.length q) l ∧ Below w.heap.size w w' := by
 obtain ⟨i0, hi, hz0, hz1, hz2⟩ := info_parts infoInt9
 have H := Lib.hid (copyInts_any w a c l h hnil hl)
 clear h hnil
 go_enter Tryz.func59, Tryz.ntmps59
 go_wp2_with (first
  | (go_at_call 102; (with_reducible refine H.out.mono ?_); rintro e w1 ⟨p1, q1, rfl, hown, hb⟩; have HO := Lib.hid hown; have HB := Lib.hid hb; clear hown hb)
  | (at_builtin; go_loud (refine wpList_app rfl _ _ 29 rfl w.heap.size 3 i0 (.int .i64 0) 1 8 Tryz.underlying29 hi hz0 hz1 hz2 rfl (by decide) (.slice p1 l.length q1) l.length (l.map (Value.int .i64)) rfl (own_keep HO.out (below_new _ _)) (some ⟨w1.heap.size, 0, none⟩) 1 1 [.int .i64 (-77)] rfl rfl (by intro A hA; cases hA; exact cell_one_new _ _ _) (by intro e; cases e) (by intro u hu; simp at hu; subst hu; rfl) (by unfold maxLen; omega) (by omega) (thenBelow HB.out (below_new _ _)).size ?_; intro p2 q2 w2 hown2 hgrow2 hat2; have HB2 : Hid (Below w.heap.size w w2) := Fr.new (thenBelow HB.out (below_new _ _)) (fr_grown (S := fun q => (Value.slice p1 l.length q1).ownBlock = some q) hgrow2 (fun q e => e)) (fun q e => (owned_at HO.out e).1); have HO2 := Lib.hid hown2; obtain ⟨g2, c2, e2, hc2, hg2, hg3⟩ := owns_form hown2 (by omega); obtain ⟨rfl, rfl⟩ : p2 = some ⟨g2, 0, none⟩ ∧ q2 = c2 := (by simpa using e2); have b1 : (l.length : Int) ≤ (q2 : Int) := (by omega); have b0 : (0 : Int) ≤ (l.length : Int) := (by omega); clear hown2 hgrow2 hat2 e2)))
 go_ret
 have hlen : q2 ≤ 9223372036854775807 := by
  rcases HO2.out.2 with ⟨e, _⟩ | ⟨g, cap, cur, e, _, _, _, h5, _⟩
  ·cases e
  ·simp only [Value.slice.injEq] at e
   have e3 : maxLen = 9223372036854775807 := by decide
   omega
 have key : ∀ (i : Nat) (u : Value), (l.map (Value.int .i64) ++ [.int .i64 (-77)])[i]? = some u → w2.cell? ⟨g2, i, none⟩ = some u := fun i u hu => by
  have := HO2.out.cells (show (Value.slice (some ⟨g2, 0, none⟩) (l.length + 1 : Nat) q2).ownBlock = some g2 from rfl) i u hu
  rwa [Go.WideShapes.add_plain, Nat.zero_add] at this
 refine ⟨g2, q2, by first | rfl | simp, ⟨g2, q2, rfl, hc2, hlen, hg2, hg3, fun i x hx => key i _ ?_, key l.length _ ?_⟩, HB2.out⟩
 ·have hil := (List.getElem?_eq_some_iff.1 hx).1
  rw [List.getElem?_append_left (by simpa using hil), List.getElem?_map, hx]
  rfl
 ·rw [List.getElem?_append_right (by simp)]
  simp
theorem sameInts_same (w : World) (u v : Value) (l : List Int) (h1 : IntsIn w u l) (h2 : IntsIn w v l) :
  Calls Tryz.prog 103 #[u, v] w fun e w' => e = .returned (.bool true) ∧ Below w.heap.size w w' := by
 obtain ⟨a, c, rfl, hl, hc⟩ := h1
 obtain ⟨a2, c2, rfl, _, hc2⟩ := h2
 go_enter Tryz.func103, Tryz.ntmps103
 go_wp2
 go_loopw [5] (fun i wr => ∃ k q : Nat, k ≤ l.length ∧ i = .int .i64 k ∧ wr = w.drewN q) (fun i _ => l.length - (RowKit.intOf i).toNat)
 case atStart => exact ⟨0, 0, Nat.zero_le _, rfl, rfl⟩
 case round =>
  obtain ⟨k, q, hk, rfl, rfl⟩ := hrel
  by_cases hlt : k < l.length
  ·obtain ⟨b, off, rfl, hb, hcc⟩ := hc (by omega)
   obtain ⟨b2, off2, rfl, hb2, hcc2⟩ := hc2 (by omega)
   have hcell := hcc k hlt
   have hcell2 := hcc2 k hlt
   have kk : (k : Int) < (l.length : Int) := by omega
   have kk0 : (0 : Int) ≤ (k : Int) := by omega
   have he : (l.getD k 0 == l.getD k 0) = true := beq_self_eq_true _
   generalize l.getD k 0 = s at hcell hcell2 he
   clear hcc hcc2 hc hc2
   go_wp2
   go_quiet (fail)
   go_wp2
   go_roundw
   case rel => exact ⟨k + 1, _, by omega, by go_num, rfl⟩
   case measure => simp [RowKit.intOf]; omega
  ·clear hc hc2
   go_wp2
   go_ret
   exact ⟨rfl, ⟨rfl, rfl, rfl, Nat.le_refl _, fun _ _ => rfl⟩⟩
theorem staysInts_any {lo : Nat} (w : World) (u v : Value) (l : List Int) (h1 : LentI lo w u l) (h2 : IntsIn w v l) (hl : l.length ≤ 1000000) :
  Calls Tryz.prog 60 #[u, v] w fun e w' => e = .returned (.bool true) ∧ Below w.heap.size w w' := by
 have HH := Lib.hid (sameInts_same w u v l (h1.ints hl) h2)
 obtain ⟨a2, c2, rfl, _, _⟩ := h2
 obtain ⟨g, c, rfl, b1, b2, b0, b3, _, hm⟩ := h1
 have HB : Hid (∀ w', Below w.heap.size w w' → w'.cell? ⟨g, l.length, none⟩ = some (.int .i64 (-77))) := fun w' hb => (hb.cell (p := ⟨g, l.length, none⟩) b3).trans hm
 have k1 : (l.length : Int) + 1 ≤ (c : Int) := by omega
 have k2 : (0 : Int) ≤ (l.length : Int) + 1 := by omega
 have k3 : (l.length : Int) < (l.length : Int) + 1 := by omega
 have k4 : (0 : Int) ≤ (l.length : Int) := by omega
 have he : ((-77 : Int) == (-77 : Int)) = true := rfl
 clear hm
 go_enter Tryz.func60, Tryz.ntmps60
 go_wp2_with (go_at_call 103; (with_reducible refine HH.out.mono ?_); rintro e w1 ⟨rfl, hb⟩; have hcell := HB.out _ hb; have HB1 := Lib.hid hb; clear hb)
 go_ret
 exact ⟨by rfl, HB1.out⟩
end Go.Proofs.YtbkngnjkaledlaaGreat.P4
namespace Go.Proofs.YtbkngnjkaledlaaGreat.P4
open Go Go.RowKit Go.Lib Go.Maps Go.ChangeMaps Go.MapKept P3
section
variable {a w w' w1 w2 : World} {d r : Nat} {K K1 : Dk} {D D1 : RM} {ks : List Int}
theorem ints_over {W : World} (hb : Below a.heap.size a W) {v : Value} {xs : List Int} (hv : IntsIn a v xs) {S : Nat → Prop} (hS : ∀ k, S k → a.heap.size ≤ k) : IntsR S W v xs := by
 obtain ⟨p, c, rfl, _, h3⟩ := hv
 by_cases h0 : 0 < xs.length
 ·obtain ⟨b, off, rfl, hb2, hc⟩ := h3 h0
  refine .inr ⟨b, off, c, rfl, Nat.lt_of_lt_of_le hb2 hb.size, fun q => by have := hS b q; omega, fun j x hj => ?_⟩
  have hl := (List.getElem?_eq_some_iff.1 hj).1
  rw [hb.cell (p := ⟨b, off + j, none⟩) hb2, hc j hl, List.getD_eq_getElem?_getD, hj]
  rfl
 ·obtain rfl : xs = [] := List.eq_nil_of_length_eq_zero (by omega)
  exact .inl ⟨p, c, rfl, rfl⟩
def TwoU (a w : World) (d : Nat) (K : Dk) (r : Nat) (D : RM) (ks : List Int) (f1 f2 : Nat) (a1 a2 : Array Value) : Prop :=
 Calls Tryz.prog f1 a1 w fun e w1 => e = .returned (.tuple #[]) ∧ Fr (K.foot d) w w1 ∧ ∀ W, Below w1.heap.size w1 W → Calls Tryz.prog f2 a2 W fun e w2 => e = .returned (.tuple #[]) ∧ ∃ K1 D1, PStep a w d K r D w2 K1 D1 ks
theorem Pr.twoU {ks' : List Int} (h : Pr a w d K r D ks) {f1 f2 : Nat} {a1 a2 : Array Value} {Q : Dk → Prop}
  (c1 : Calls Tryz.prog f1 a1 w fun e w1 => ∃ K1, e = .returned (.tuple #[]) ∧ Step w d K w1 K1 ∧ Q K1)
  (c2 : ∀ K1, Q K1 → ∀ W, RAt a.heap.size W r D → Calls Tryz.prog f2 a2 W fun e w2 => e = .returned (.tuple #[]) ∧ ∃ D1, RStep a.heap.size W r D w2 D1 ∧ Eqv K1 D1 ks' ∧ IntsIn a D1.kv ks' ∧ K1.turn ≤ K.turn + 1) :
  TwoU a w d K r D ks' f1 f2 a1 a2 := by
 refine c1.mono ?_
 rintro e w1 ⟨K1, rfl, hs, hq⟩
 refine ⟨rfl, hs.fr, fun W hW => ?_⟩
 have hs2 := hs.trans (Step.below hs.at' hW)
 refine (c2 K1 hq W (h.at2' hs2)).mono ?_
 rintro e w2 ⟨rfl, D1, h5, h6, h7, h8⟩
 exact ⟨rfl, K1, D1, h.step hs2 h5 h6 h7 h8⟩
theorem two_crash (h : Pr a w d K r D ks) (ht : K.turn < 9000) (xs : List Int) {v1 v2 : Value} (h1 : IntsR (K.wfoot d) w v1 xs) (h2 : IntsIn a v2 xs) : Two a w d K r D ks 25 48 #[.pointer (some ⟨d, 0, none⟩), v1] #[.pointer (some ⟨r, 0, none⟩), v2] := by
 obtain ⟨s1, s2, s3, s4⟩ := h.eqv.sizes h.at1 (by omega)
 have hoff := h.eqv.on
 cases hon : K.on with
 | false =>
  have ho : D.off = true := by rw [hoff, hon]; rfl
  refine (crash_off w d v1 ((cell_at h.at1.blk 1).trans (by rw [← hon]; rfl))).mono ?_
  rintro e w1 ⟨rfl, rfl⟩
  refine ⟨0, rfl, (Step.below h.at1 (Below.refl _ _)).fr, fun W hW => ?_⟩
  have hs2 := Step.below h.at1 hW
  obtain ⟨p, c, e2, _⟩ := h2
  refine ((h.at2' hs2).crash_off ho v2 ⟨p, _, c, e2⟩).mono ?_
  rintro e w2 ⟨rfl, rfl⟩
  exact ⟨rfl, K, D, h.step hs2 (RStep.below (h.at2' hs2) (Below.refl _ _)) h.eqv h.kint (Nat.le_succ _)⟩
 | true =>
  have ho : D.off = false := by rw [hoff, hon]; rfl
  refine (crash_disk h.at1 hon h1).mono ?_
  rintro e w1 ⟨n, K1, rfl, hcr⟩
  refine ⟨n, rfl, hcr.step.fr, fun W hW => ?_⟩
  have hs2 := hcr.step.trans (Step.below hcr.step.at' hW)
  have hb2 : Below a.heap.size a W := Fr.new h.below hs2.fr h.f1
  have hR := h.at2' hs2
  refine (hR.crash ho xs v2 (ints_over hb2 h2 fun k hk => (hR.own_lt hk).1) s1 s2).mono ?_
  rintro e w2 ⟨E, rfl, hs, hcm⟩
  obtain ⟨e1, e2⟩ := h.eqv.crash h.at1 hcr hcm
  refine ⟨by rw [e1], K1, E, h.step hs2 hs e2 (by rw [hcm.kv]; exact h.kint) (by rw [hcr.eq]; exact Nat.le_succ _)⟩
theorem two_restore (h : Pr a w d K r D ks) : TwoU a w d K r D ks 29 61 #[.pointer (some ⟨d, 0, none⟩)] #[.pointer (some ⟨r, 0, none⟩)] := by
 refine h.twoU (Q := fun K1 => K1 = { K with on := true }) (h.at1.restore.mono fun e w1 ⟨h1, h2⟩ => ⟨_, h1, h2, rfl⟩) ?_
 rintro K1 rfl W hW
 refine hW.restore.mono ?_
 rintro e w2 ⟨h1, h2⟩
 have q := h.eqv
 exact ⟨h1, _, h2, ⟨q.abs, rfl, q.room, q.armed, q.left, q.calm, q.nle, q.few, ⟨q.inv.turns, q.inv.tmax, q.inv.own, q.inv.ids, q.inv.idm, q.inv.idt, q.inv.redo⟩⟩, h.kint, Nat.le_succ _⟩
theorem two_arm (h : Pr a w d K r D ks) (n : Int) (hn : n ≤ 9223372036854775807) {xs : List Int} (hl : xs.length ≤ 10000) {g c : Nat} (hgd : g ≠ d) (hc : ∀ j, j < xs.length → w.cell? ⟨g, 0 + j, none⟩ = some (.int .i64 (xs.getD j 0))) {v2 : Value} (hv : IntsIn a v2 xs) :
  TwoU a w d K r D xs 62 63 #[.pointer (some ⟨d, 0, none⟩), .int .i64 n, .slice (some ⟨g, 0, none⟩) xs.length c] #[.pointer (some ⟨r, 0, none⟩), .int .i64 n, v2] := by
 obtain ⟨p, c2, ev, _⟩ := id hv
 have q := h.eqv
 by_cases hn0 : 0 ≤ n
 ·refine h.twoU (Q := fun K1 => ∃ v', K1 = { K with armed := true, left := n, kv := v', keep := xs }) ((h.at1.arm n hn0 g 0 c xs (by omega) hgd hc).mono fun e w1 ⟨v', h1, h2⟩ => ⟨_, h1, h2, v', rfl⟩) ?_
  rintro K1 ⟨v', rfl⟩ W hW
  refine (hW.arm n v2 ⟨p, _, c2, ev⟩).mono ?_
  rintro e w2 ⟨h1, h2⟩
  exact ⟨h1, _, h2, ⟨q.abs, q.on, q.room, (decide_eq_true hn0).symm, fun _ => ⟨rfl, rfl, hn0⟩, fun ha => absurd hn0 (of_decide_eq_false (show decide (0 ≤ n) = false from ha)), hn, hl, ⟨q.inv.turns, q.inv.tmax, q.inv.own, q.inv.ids, q.inv.idm, q.inv.idt, q.inv.redo⟩⟩, hv, Nat.le_succ _⟩
 ·have hb := h.at1.blk
  refine h.twoU (Q := fun K1 => K1 = { K with armed := false, left := 0, kv := .slice none 0 0, keep := [] }) ((arm_neg w d n _ _ _ _ (cell_at hb 4) (cell_at hb 5) (cell_at hb 6) (free_at hb 4) (free_at hb 5) (free_at hb 6) (by omega)).mono fun e w1 ⟨h1, h2⟩ => ⟨_, h1, ?_, rfl⟩) ?_
  ·subst h2
   have ho : Only d w (((w.setCell ⟨d, 4, none⟩ (.bool false)).setCell ⟨d, 5, none⟩ (.int .i64 0)).setCell ⟨d, 6, none⟩ (.slice none 0 0)) := (((Only.refl d w).setCell _ _).setCell _ _).setCell _ _
   refine ⟨h.at1.own ho (set_at (set_at (set_at hb 4 _) 5 _) 6 _) rfl rfl (World.ownsRow_nil _ _ _ _) (Nat.le_refl _) h.at1.many.2, ?_, .only ho (.inl rfl)⟩
   rintro k (hk | hk | hk | hk)
   ·exact .inl (.inl hk)
   ·exact .inl (.inr (.inl hk))
   ·exact .inl (.inr (.inr (.inl hk)))
   ·cases hk
  ·rintro K1 rfl W hW
   refine (hW.arm n v2 ⟨p, _, c2, ev⟩).mono ?_
   rintro e w2 ⟨h1, h2⟩
   exact ⟨h1, _, h2, ⟨q.abs, q.on, q.room, (decide_eq_false hn0).symm, fun ha => absurd (of_decide_eq_true ha) hn0, fun _ => ⟨rfl, rfl⟩, hn, Nat.zero_le _, ⟨q.inv.turns, q.inv.tmax, q.inv.own, q.inv.ids, q.inv.idm, q.inv.idt, q.inv.redo⟩⟩, hv, Nat.le_succ _⟩
theorem dkroom_any (h : DiskAt w d K) (i : Int) : Calls Tryz.prog 64 #[.pointer (some ⟨d, 0, none⟩), .int .i64 i] w fun e w' => e = .returned (.tuple #[]) ∧ Step w d K w' { K with room := i } := by
 have c2 : w.cell? ⟨d, 2, none⟩ = some (.int .i64 K.room) := cell_at h.blk 2
 have f2 := free_at h.blk 2
 have HS : Hid (Step w d K (w.setCell ⟨d, 2, none⟩ (.int .i64 i)) { K with room := i }) := .own h ((Only.refl d w).setCell 2 _) (set_at h.blk 2 _) rfl rfl ⟨rfl, rfl⟩ (Nat.le_refl _) h.many.2
 clear h
 go_enter Tryz.func64, Tryz.ntmps64
 go_wp2
 go_end0
 exact ⟨rfl, HS.out⟩
theorem Pr.roomed (h : Pr a w d K r D ks) (i : Int) (h1 : Step w d K w1 { K with room := i }) : w1.cell? ⟨r, 3, none⟩ = some (.int .i64 D.room) ∧ w1.frozen? ⟨r, 3, none⟩ = false ∧ PStep a w d K r D (w1.setCell ⟨r, 3, none⟩ (.int .i64 i)) { K with room := i } { D with room := i } ks := by
 have hR := h.at2' h1
 have q := h.eqv
 exact ⟨hR.cell 3, hR.free 3, h.step h1 (RStep.only hR 3 (.int .i64 i) { D with room := i } rfl rfl rfl rfl rfl) ⟨q.abs, q.on, rfl, q.armed, q.left, q.calm, q.nle, q.few, ⟨q.inv.turns, q.inv.tmax, q.inv.own, q.inv.ids, q.inv.idm, q.inv.idt, q.inv.redo⟩⟩ h.kint (Nat.le_succ _)⟩
theorem Pr.idle (h : Pr a w d K r D ks) (hb : Below w.heap.size w w') : PStep a w d K r D w' K D ks :=
 ⟨h.over hb, fun _ q => .inl q, fun _ q => .inl q, fun _ q => .inl q, Fr.of hb, Nat.le_succ _⟩
theorem PStep.under (hb : Below w.heap.size w w1) (h : PStep a w1 d K r D w2 K1 D1 ks) : PStep a w d K r D w2 K1 D1 ks := by
 have hz : w.heap.size ≤ w1.heap.size := hb.size
 refine ⟨h.pr, fun k q => ?_, fun k q => ?_, fun k q => ?_, (Fr.of hb).trans h.fr, h.tn⟩
 ·rcases h.kf k q with e | e
  ·exact .inl e
  ·exact .inr (Nat.le_trans hz e)
 ·rcases h.df k q with e | e
  ·exact .inl e
  ·exact .inr (Nat.le_trans hz e)
 ·rcases h.do_ k q with e | e
  ·exact .inl e
  ·exact .inr (Nat.le_trans hz e)
theorem PStep.over (h : PStep a w d K r D w1 K1 D1 ks) (hb : Below w1.heap.size w1 w2) : PStep a w d K r D w2 K1 D1 ks :=
 ⟨h.pr.over hb, h.kf, h.df, h.do_, h.fr.trans (Fr.of hb), h.tn⟩
def ActP (a w : World) (d : Nat) (K : Dk) (r : Nat) (D : RM) (e : Ending) (w' : World) : Prop := e = .returned (.bool true) ∧ ∃ K1 D1 ks1, PStep a w d K r D w' K1 D1 ks1
end
end Go.Proofs.YtbkngnjkaledlaaGreat.P4
namespace Go.Proofs.YtbkngnjkaledlaaGreat.P4
open Go Go.RowKit Go.Lib Go.Maps Go.ChangeMaps Go.MapKept P3
section
variable {w w1 W : World} {d r lo : Nat} {K K1 : Dk} {D : RM} {ks : List Int}
theorem pair_write (hK : DiskAt w d K) (hE : Eqv K D ks) (ht : K.turn < 8999) (s : ByteArray) (i : Int) (data : ByteArray) (hdm : data.size ≤ maxLen) {z : Int} (hwk : WK d K s i data z K1 w1) (hW : RAt lo W r D) (hi : ∀ S : Nat → Prop, (∀ k, S k → lo ≤ k) → IntsR S W D.kv ks) :
  Calls Tryz.prog 37 #[.pointer (some ⟨r, 0, none⟩), .string s, .int .i64 i, .string data] W fun e w2 => e = .returned (.int .i64 z) ∧ ∃ D1, RStep lo W r D w2 D1 ∧ Eqv K1 D1 ks ∧ D1.kv = D.kv ∧ K1.turn ≤ K.turn + 1 := by
 have he := hE.writeE hK s i data.size
 obtain ⟨s1, s2, s3, s4⟩ := hE.sizes hK (by omega)
 have hwl : D.ws.length < 9000 := by have h1 := hE.dirty; have h2 := hK.many.1; omega
 have hq : (errW D s i data.size ≠ 0 ∧ z = errW D s i data.size ∧ K1 = K) ∨ (errW D s i data.size = 0 ∧ D.fallsB = true ∧ z = 14 ∧ ∃ w0 K0 n, DiskAt w0 d K0 ∧ Written K s.data.toList i.toNat data K0 ∧ Crashed w0 d K0 ks n K1 w1) ∨ (errW D s i data.size = 0 ∧ D.fallsB = false ∧ z = 0 ∧ ∃ K0, Written K s.data.toList i.toNat data K0 ∧ K1 = counted K0) := by
  unfold WK at hwk
  rw [he] at hwk
  rcases hwk with q | ⟨q1, ⟨q2, q3⟩, q4, q5⟩ | ⟨q1, q2, q3, q4⟩
  ·exact .inl q
  ·obtain ⟨hfb, hk⟩ := hE.fb1 q2 q3
   rw [hk] at q5
   exact .inr (.inl ⟨q1, hfb, q4, q5⟩)
  ·exact .inr (.inr ⟨q1, hE.fb0 q2, q3, q4⟩)
 by_cases hbad : D.off = true ∨ nameOk s = false ∨ data.size ≠ 256
 ·have hne : errW D s i data.size ≠ 0 := by
   unfold errW
   by_cases ho : D.off = true
   ·rw [if_pos ho]; decide
   ·rw [if_neg ho]
    rcases hbad with q | q | q
    ·exact absurd q ho
    ·rw [if_pos (.inl q)]; decide
    ·rw [if_pos (.inr q)]; decide
  refine (hW.write_err1 s i data hdm hbad).mono ?_
  rintro e w2 ⟨h1, rfl⟩
  rcases hq with ⟨_, rfl, rfl⟩ | ⟨q1, _⟩ | ⟨q1, _⟩
  ·exact ⟨h1, D, RStep.below hW (Below.refl _ _), hE, rfl, Nat.le_succ _⟩
  ·exact absurd q1 hne
  ·exact absurd q1 hne
 ·have ho : D.off = false := by cases hb : D.off with | false => rfl | true => exact absurd (.inl hb) hbad
  have hn : nameOk s = true := by cases hb : nameOk s with | true => rfl | false => exact absurd (.inr (.inl hb)) hbad
  have hd : data.size = 256 := Decidable.not_not.1 fun q => hbad (.inr (.inr q))
  refine (hW.write_main s i data (K.turn + 1) ks ho hn hd hE.h0 hE.nle hwl s3 s2 s1 (hi _ fun k hk => (hW.own_lt hk).1)).mono ?_
  rintro e w2 hr
  cases hr with
  | err h1 h2 h3 =>
   rcases hq with ⟨_, rfl, rfl⟩ | ⟨q1, _⟩ | ⟨q1, _⟩
   ·exact ⟨h2, D, RStep.below hW h3, hE, rfl, Nat.le_succ _⟩
   ·exact absurd q1 h1
   ·exact absurd q1 h1
  | done h1 hfb h2 n k f C u v hin hop hf hnn hn2 hst =>
   subst hin
   rcases hq with ⟨q1, _⟩ | ⟨_, q2, _⟩ | ⟨_, _, rfl, K0, hwr, rfl⟩
   ·exact absurd h1 q1
   ·rw [hfb] at q2; cases q2
   ·have hsm := hwr.same
    obtain ⟨ha, hinv⟩ := hE.wrote (u := u) (v := v) hK hop hf hnn hwr
    have hc := hE.count hfb
    have e1 : (counted K0).on = (counted K).on ∧ (counted K0).room = (counted K).room ∧ (counted K0).armed = (counted K).armed ∧ (counted K0).left = (counted K).left ∧ (counted K0).keep = (counted K).keep := by
     rw [hsm]; unfold counted; split <;> exact ⟨rfl, rfl, rfl, rfl, rfl⟩
    have e2 : (C.wrote k f (K.turn + 1) n data u v).off = D.count.off ∧ (C.wrote k f (K.turn + 1) n data u v).room = D.count.room ∧ (C.wrote k f (K.turn + 1) n data u v).armed = D.count.armed ∧ (C.wrote k f (K.turn + 1) n data u v).n = D.count.n := by
     rcases hop with ⟨_, _, rfl⟩ | ⟨_, _, _, lv, rfl, _⟩ <;> exact ⟨rfl, rfl, rfl, rfl⟩
    have et : (counted K0).turn = K.turn + 1 := by rw [count_turn, hsm]
    refine ⟨h2, _, hst, hc.step (K1 := counted K0) (by rw [counted_files]; exact ha) (by rw [et]; exact hinv) e1 e2, ?_, by rw [et]; exact Nat.le_refl _⟩
    rcases hop with ⟨_, _, rfl⟩ | ⟨_, _, _, lv, rfl, _⟩ <;> exact count_kv D
  | falls h1 hfb h2 n k f C u v hin hop hf hnn hn2 wm hst zz hc =>
   subst hin
   rcases hq with ⟨q1, _⟩ | ⟨_, _, rfl, w0, K0, n0, hK0, hwr, hcr⟩ | ⟨_, q2, _⟩
   ·exact absurd h1 q1
   ·have hsm := hwr.same
    obtain ⟨ha, hinv⟩ := hE.wrote (u := u) (v := v) hK hop hf hnn hwr
    have hcnt := count_falls hfb
    have e1 : K0.on = K.on ∧ K0.room = K.room ∧ K0.armed = K.armed ∧ K0.left = K.left ∧ K0.keep = K.keep := by
     rw [hsm]; exact ⟨rfl, rfl, rfl, rfl, rfl⟩
    have e2 : (C.wrote k f (K.turn + 1) n data u v).off = D.off ∧ (C.wrote k f (K.turn + 1) n data u v).room = D.room ∧ (C.wrote k f (K.turn + 1) n data u v).armed = D.armed ∧ (C.wrote k f (K.turn + 1) n data u v).n = D.n := by
     rcases hop with ⟨_, _, rfl⟩ | ⟨_, _, _, lv, rfl, _⟩ <;>
      (show D.count.off = D.off ∧ D.count.room = D.room ∧ D.count.armed = D.armed ∧ D.count.n = D.n; rw [hcnt]; exact ⟨rfl, rfl, rfl, rfl⟩)
    have et : K0.turn = K.turn + 1 := by rw [hsm]
    have hev := hE.step (K1 := K0) ha (by rw [et]; exact hinv) e1 e2
    obtain ⟨E, hs2, hcm⟩ := hc.kv
    refine ⟨h2, E, hst.trans hs2, (hev.crash hK0 hcr hcm).2, ?_, by rw [hcr.eq]; show K0.turn ≤ _; rw [et]; exact Nat.le_refl _⟩
    rw [hcm.kv]
    rcases hop with ⟨_, _, rfl⟩ | ⟨_, _, _, lv, rfl, _⟩ <;> exact count_kv D
   ·rw [hfb] at q2; cases q2
end
end Go.Proofs.YtbkngnjkaledlaaGreat.P4
namespace Go.Proofs.YtbkngnjkaledlaaGreat.P0
open Go Go.RowKit Go.Lib
def low (n v : Nat) : List UInt8 := (List.range n).map fun i => UInt8.ofNat (v / 256 ^ i)
theorem low_succ (n v : Nat) : low (n + 1) v = low n v ++ [UInt8.ofNat (v / 256 ^ n)] := by
 simp [low, List.range_succ]
theorem low_length (n v : Nat) : (low n v).length = n := by simp [low]
theorem low_zero (v : Nat) : low 0 v = [] := rfl
def cells (xs : List UInt8) : List Value := xs.map fun c => Value.int .u8 c.toNat
theorem cells_length (xs : List UInt8) : (cells xs).length = xs.length := by simp [cells]
theorem cells_append (a b : List UInt8) : cells (a ++ b) = cells a ++ cells b := by simp [cells]
theorem cells_snoc (xs : List UInt8) (x : Nat) : cells (xs ++ [UInt8.ofNat x]) = cells xs ++ [.int .u8 ((x : Int) % 256)] := by
 simp [cells]
def str (l : List UInt8) : ByteArray := ⟨l.toArray⟩
theorem str_size (l : List UInt8) : (str l).size = l.length := by simp [str, ByteArray.size]
theorem str_list (l : List UInt8) : (str l).data.toList = l := by simp [str]
theorem str_eq (s : ByteArray) : str s.data.toList = s := by simp [str]
theorem text_ext {a b : ByteArray} (h : a.data.toList = b.data.toList) : a = b := by rw [← str_eq a, ← str_eq b, h]
theorem text_app (a b : ByteArray) : (a ++ b).data.toList = a.data.toList ++ b.data.toList := by simp [ByteArray.data_append]
theorem text_len (s : ByteArray) : s.data.toList.length = s.size := by simp
theorem size_app (a b : ByteArray) : (a ++ b).size = a.size + b.size := ByteArray.size_append ..
theorem same_true {a b : ByteArray} (h : a = b) : (a.toList == b.toList) = true := by rw [h]; exact beq_self_eq_true _
theorem same_false {a b : ByteArray} (h : a ≠ b) : (a.toList == b.toList) = false := by
 rw [beq_eq_false_iff_ne, ByteArray.toList_eq, ByteArray.toList_eq]
 exact fun e => h (text_ext e)
theorem owns_below {w w' : World} {base e size : Nat} {v : Value} {n : Nat} {xs : List Value} (h : w.ownsRow base e size v n xs) (hb : Below w.heap.size w w') : w'.ownsRow base e size v n xs :=
 h.kept (row := none) ⟨hb.os, hb.tape, hb.output, hb.size, fun k hk _ => hb.block k hk⟩ (by cases hv : v.ownBlock <;> simp)
theorem owns_shape {w : World} {base e size n : Nat} {v : Value} {xs : List Value} (h : w.ownsRow base e size v n xs) : ∃ a k c, v = .slice a k c := by
 rcases h.2 with ⟨rfl, _⟩ | ⟨g, cap, cur, rfl, _⟩
 ·exact ⟨_, _, _, rfl⟩
 ·exact ⟨_, _, _, rfl⟩
theorem len_owned {w : World} {base e : Nat} {v : Value} {n : Nat} {xs : List Value} (h : w.ownsRow base e 1 v n xs) : ∃ a c, v = .slice a n c := by
 rcases h.2 with ⟨rfl, rfl⟩ | ⟨g, cap, cur, rfl, _⟩
 ·exact ⟨_, _, rfl⟩
 ·exact ⟨_, _, rfl⟩
theorem cell_at {w : World} {b : Nat} {c : Array Value} {t : TypeId} (h : w.heap[b]? = some (.cells c t (0, 0))) (j : Nat) : w.cell? ⟨b, j, none⟩ = c[j]? := by
 simp [World.cell?, h]
theorem free_at {w : World} {b : Nat} {c : Array Value} {t : TypeId} (h : w.heap[b]? = some (.cells c t (0, 0))) (j : Nat) : w.frozen? ⟨b, j, none⟩ = false := by
 simp [World.frozen?, h]
theorem set_at {w : World} {b : Nat} {c : Array Value} {t : TypeId} (h : w.heap[b]? = some (.cells c t (0, 0))) (j : Nat) (u : Value) : (w.setCell ⟨b, j, none⟩ u).heap[b]? = some (.cells (c.setIfInBounds j u) t (0, 0)) := by
 simp only [World.setCell, Array.getElem?_modify]; rw [h]; rfl
theorem new_at (w : World) (c : Array Value) (t : TypeId) : (w.alloc (.cells c t)).heap[w.heap.size]? = some (.cells c t (0, 0)) := heap_alloc_new w _
theorem below_new (w : World) (o : Obj) : Below w.heap.size w (w.alloc o) := (Below.refl _ w).alloc (Nat.le_refl _) o
theorem grow {a w : World} (h : Below a.heap.size a w) (o : Obj) : Below a.heap.size a (w.alloc o) := h.alloc h.size o
theorem thenBelow {a w w' : World} (h : Below a.heap.size a w) (k : Below w.heap.size w w') : Below a.heap.size a w' := h.trans (k.mono h.size)
theorem infoByte : (Tryz.prog.info? 5).map (fun i => (i.zero, i.size, i.bytes)) = some (some (.int .u8 0), 1, 1) := by kernel_rfl
theorem div_step {x n k : Nat} (h : x = n / 256 ^ k) : x / 256 = n / 256 ^ (k + 1) := by
 rw [h, Nat.div_div_eq_div_mul, Nat.pow_succ]
theorem run_owned_string (w : World) {base n : Nat} {v : Value} {xs : List UInt8} (h : w.ownsRow base 5 1 v n (cells xs)) :
  (convert 141 9 v).run Tryz.prog w = .ok (.string ⟨xs.toArray⟩) w := by
 have hn : n = xs.length := by have := h.1; simp [cells_length] at this; omega
 subst hn
 rcases h.2 with ⟨rfl, e⟩ | ⟨g, cap, cur, rfl, _, hg, _, _, _, ht⟩
 ·obtain rfl : xs = [] := List.eq_nil_of_length_eq_zero e
  exact run_convert_nil_bytes w 141 9 5 0 Tryz.underlying141 Tryz.underlying5 Tryz.underlying9
 ·rw [Nat.mul_one] at ht
  exact run_convert_bytes_back w 141 9 5 ⟨g, 0, none⟩ cap xs Tryz.underlying141 Tryz.underlying5 Tryz.underlying9 (bytes_of_row hg ht)
def TextsIn (w : World) (v : Value) (l : List ByteArray) : Prop :=
 ∃ a c, v = .slice a l.length c ∧ (a = none → c = 0) ∧ l.length ≤ 9223372036854775807 ∧ (∀ i (h : i < l.length), l[i].size ≤ 9223372036854775807) ∧ (0 < l.length → ∃ b off, a = some ⟨b, off, none⟩ ∧ b < w.heap.size ∧ ∀ i (h : i < l.length), w.cell? ⟨b, off + i, none⟩ = some (.string l[i]))
theorem TextsIn.new (w : World) (l : List ByteArray) (c : Nat) (hl : l.length ≤ 9223372036854775807) (hz : ∀ i (h : i < l.length), l[i].size ≤ 9223372036854775807) : TextsIn (w.alloc (.cells (l.map Value.string).toArray 9)) (.slice (some ⟨w.heap.size, 0, none⟩) l.length c) l := by
 refine ⟨_, c, rfl, (fun h => by cases h), hl, hz, fun _ => ⟨w.heap.size, 0, rfl, by simp, fun i hi => ?_⟩⟩
 rw [cell_at (new_at w _ _)]
 simp [hi]
theorem rLow_any (w : World) (n size : Nat) (hn : n < 18446744073709551616) (hs : size ≤ 8) :
  Calls Tryz.prog 87 #[.int .u64 n, .int .i64 size] w fun r w' => r = .returned (.string (str (low size n))) ∧ Below w.heap.size w w' := by
 obtain ⟨i0, hi, hz0, hz1, hz2⟩ := info_parts infoByte
 go_enter Tryz.func87, Tryz.ntmps87
 go_wp2
 go_loopw [0, 5, 6] (fun v b i wr => ∃ k x : Nat, k ≤ size ∧ i = .int .i64 k ∧ v = .int .u64 (x : Int) ∧ Hid (x = n / 256 ^ k) ∧ x < 18446744073709551616 ∧ wr.ownsRow w.heap.size 5 1 b k (cells (low k n)) ∧ Below w.heap.size w wr) (fun _ _ i _ => size - (RowKit.intOf i).toNat)
 case atStart => exact ⟨0, n, Nat.zero_le _, rfl, rfl, (by simp : n = n / 256 ^ 0), hn, World.ownsRow_nil _ _ _ _, Below.refl _ _⟩
 case round =>
  obtain ⟨k, x, hk, rfl, rfl, hxe, hxl, hown, hbel⟩ := hrel
  by_cases hks : k < size
  ·go_wp2_with (at_builtin; refine wpList_append_own _ rfl _ _ 141 rfl w.heap.size 5 i0 (.int .u8 0) 1 1 Tryz.underlying141 hi hz0 hz1 hz2 rfl (by decide) _ _ _ rfl (hown.alloc _) ⟨wr.heap.size, 0, none⟩ 1 1 [.int .u8 ((x : Int) % 256)] rfl rfl ?c1 ?c2 ?c3 ?c4 ?c5 ?_)
   case c1 => exact cell_one_new _ _ _
   case c2 => intro u hu; simp at hu; subst hu; rfl
   case c3 => unfold maxLen; omega
   case c4 => omega
   case c5 => have := hbel.size; simp; omega
   intro v' w2 hown' hgrow _
   have hb2 : Below w.heap.size w w2 := (hbel.alloc hbel.size _).grown hgrow (by have := hbel.size; simp; omega) (fun q hq => (hown.lt q hq).1)
   have hys : w2.ownsRow w.heap.size 5 1 v' (k + 1) (cells (low (k + 1) n)) := by
    rw [low_succ, ← hxe.out, cells_snoc]; exact hown'
   have hxe' : Hid (x / 256 = n / 256 ^ (k + 1)) := div_step hxe.out
   have hx8 : x / 256 < 18446744073709551616 := by omega
   clear hown' hgrow hown hbel
   go_wp2
   go_roundw
   case rel => exact ⟨k + 1, x / 256, by omega, by go_num, by go_num, hxe', hx8, hys, hb2⟩
   case measure => simp [RowKit.intOf]; omega
  ·obtain rfl : k = size := by omega
   obtain ⟨a, c, rfl⟩ := len_owned hown
   have hcv := run_owned_string wr hown
   have HI : Hid (str (low k n) = ⟨(low k n).toArray⟩) := rfl
   generalize (⟨(low k n).toArray⟩ : ByteArray) = z at hcv HI
   go_wp2
   go_ret
   exact ⟨by rw [HI.out]; rfl, hbel⟩
end Go.Proofs.YtbkngnjkaledlaaGreat.P0
namespace Go.Proofs.YtbkngnjkaledlaaGreat.P2
open Go Go.RowKit Go.Lib P0
def bit1 (x : Nat) : Nat := if x % 2 = 1 then x / 2 ^^^ 2197175160 else x / 2
def bitN : Nat → Nat → Nat
 | 0, x => x
 | n + 1, x => bit1 (bitN n x)
def upd (x : Nat) (l : List UInt8) : Nat := l.foldl (fun x c => bitN 8 (x ^^^ c.toNat)) x
def crc (l : List UInt8) : Nat := 4294967295 ^^^ upd 4294967295 l
theorem bit1_lt {x : Nat} (h : x < 4294967296) : bit1 x < 4294967296 := by
 unfold bit1
 split
 ·exact Nat.xor_lt_two_pow (n := 32) (by omega) (by decide)
 ·omega
theorem bitN_lt {x : Nat} (h : x < 4294967296) (n : Nat) : bitN n x < 4294967296 := by
 induction n with
 | zero => exact h
 | succ n ih => exact bit1_lt ih
theorem xor_byte_lt {x : Nat} (h : x < 4294967296) (c : UInt8) : x ^^^ c.toNat < 4294967296 :=
 Nat.xor_lt_two_pow (n := 32) (by omega) (by have := c.toNat_lt; omega)
theorem upd_lt {x : Nat} (h : x < 4294967296) (l : List UInt8) : upd x l < 4294967296 := by
 induction l generalizing x with
 | nil => exact h
 | cons c r ih => exact ih (bitN_lt (xor_byte_lt h c) 8)
theorem upd_append (x : Nat) (a b : List UInt8) : upd x (a ++ b) = upd (upd x a) b := by simp [upd]
theorem upd_snoc (x : Nat) (a : List UInt8) (c : UInt8) : upd x (a ++ [c]) = bitN 8 (upd x a ^^^ c.toNat) := by simp [upd]
theorem crc_lt (l : List UInt8) : crc l < 4294967296 :=
 Nat.xor_lt_two_pow (n := 32) (by decide) (upd_lt (by decide) l)
theorem step_bits {x : Nat} (h : x < 4294967296) :
  bits .xor .u32 ((x : Int) / 2) (bits .and .u32 2197175160 (-bits .and .u32 (x : Int) 1 % 4294967296)) = (bit1 x : Int) := by
 have e1 : bits .and .u32 (x : Int) 1 = ((x % 2 : Nat) : Int) := by
  have := u32_and_nat x 1 h (by decide)
  rw [Nat.and_one_is_mod] at this
  exact this
 have e0 : ((x : Int) / 2) = ((x / 2 : Nat) : Int) := by omega
 rw [e1, e0]
 unfold bit1
 rcases Nat.mod_two_eq_zero_or_one x with hx | hx
 ·rw [hx, if_neg (by decide)]
  have e2 : bits .and .u32 2197175160 (-((0 : Nat) : Int) % 4294967296) = ((0 : Nat) : Int) := by kernel_rfl
  rw [e2, u32_xor_nat (x / 2) 0 (by omega) (by decide), Nat.xor_zero]
 ·rw [hx, if_pos rfl]
  have e2 : bits .and .u32 2197175160 (-((1 : Nat) : Int) % 4294967296) = ((2197175160 : Nat) : Int) := by kernel_rfl
  rw [e2, u32_xor_nat (x / 2) 2197175160 (by omega) (by decide)]
theorem step_any (w : World) (x : Nat) (h : x < 4294967296) :
  Calls Tryz.prog 190 #[.int .u32 x] w fun r w' => r = .returned (.int .u32 (bitN 8 x : Nat)) ∧ w = w' := by
 go_enter Tryz.func190, Tryz.ntmps190
 go_wp2
 go_loop [0, 3] (fun v i => ∃ k y : Nat, k ≤ 8 ∧ i = .int .i64 k ∧ v = .int .u32 (y : Int) ∧ y < 4294967296 ∧ Hid (y = bitN k x)) (fun _ i => 8 - (RowKit.intOf i).toNat)
 case atStart => exact ⟨0, x, by omega, rfl, rfl, h, rfl⟩
 case round =>
  obtain ⟨k, y, hk, rfl, rfl, hy, hyx⟩ := hrel
  have hs := Lib.hid (step_bits hy)
  by_cases h8 : k < 8
  ·go_wp2
   go_round
   case rel => exact ⟨k + 1, bit1 y, by omega, by go_num, congrArg _ hs.out, bit1_lt hy, by rw [hyx.out]; rfl⟩
   case measure => simp [RowKit.intOf]; omega
  ·have h9 : Hid (k = 8) := by show k = 8; omega
   go_wp2
   go_ret
   exact ⟨by rw [hyx.out, h9.out]; rfl, rfl⟩
end Go.Proofs.YtbkngnjkaledlaaGreat.P2
