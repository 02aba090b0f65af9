/-
  Texts of the proof of SaidPlays, side by side: ArgsP, In0, Eq7.
-/
import Derived.Test.YtaabepiddbnggaaGreatMp37
import Derived.Test.YtaabepiddbnggaaGreatMp26
import Derived.BigQuiet
import Derived.Deep.QuietTactic
import Derived.Test.YtaabepiddbnggaaGreatMp18
import Derived.Test.YtaabepiddbnggaaGreatMp16
/-
  Acts as arguments: one, a list, with the numbers' bounds. (For the seat of DiskPlays.)
-/
namespace Go.Proofs.YtaabepiddbnggaaGreat.P3
open Go Go.RowKit Go.Lib Go.Maps Go.ChangeMaps Go.MapKept Go.Proofs.YtaabepiddbnggaaGreat.P4

theorem cellsOp4 : Tryz.prog.cellsOf 46 = 7 := by kernel_rfl
theorem cellsStr4 : Tryz.prog.cellsOf 9 = 1 := by kernel_rfl
theorem cellsBool4 : Tryz.prog.cellsOf 4 = 1 := by kernel_rfl
theorem cellsInts4 : Tryz.prog.cellsOf 30 = 1 := by kernel_rfl
/-- what an act is that came in -/
structure ActOk (w : World) (o : OpV) : Prop where
  S : o.S.size ≤ maxLen
  T : o.T.size ≤ maxLen
  L : IntsIn w (.slice o.a o.L.length o.c) o.L
  wA : (Lit.int .i64 o.A).wf = true
  wB : (Lit.int .i64 o.B).wf = true
  nil : o.a = none → o.L.length = 0 ∧ o.c = 0
section
variable {H : Type} {enc : TypeId × Value → H} {w : World} {base : Nat} {sp : Nat → Bool} {held : Bool}
set_option maxRecDepth 100000 in
theorem act_open {n : Nat} {cs : List Value} {x : DataW H × List MemPlace} (h : DataW.trod enc Tryz.prog w base sp held n 46 cs = some x) : ∃ o : OpV, cs = o.cells.toList ∧ ActOk w o := by
  obtain ⟨xs, m, _, _, hl, hxl, hf⟩ := DataW.trod_struct Tryz.underlying46 h
  rw [cellsOp4] at hl
  match cs, hl with
  | [c0, c1, c2, c3, c4, c5, c6], _ =>
    have hx : ∀ i, i < 7 → ∃ y, xs[i]? = some y := fun i hi => ⟨_, List.getElem?_eq_getElem (by rw [hxl]; exact hi)⟩
    obtain ⟨y0, e0⟩ := hx 0 (by omega)
    obtain ⟨y1, e1⟩ := hx 1 (by omega)
    obtain ⟨y2, e2⟩ := hx 2 (by omega)
    obtain ⟨y3, e3⟩ := hx 3 (by omega)
    obtain ⟨y4, e4⟩ := hx 4 (by omega)
    obtain ⟨y5, e5⟩ := hx 5 (by omega)
    obtain ⟨y6, e6⟩ := hx 6 (by omega)
    have f0 : DataW.trod enc Tryz.prog w base sp held m 3 (([c0, c1, c2, c3, c4, c5, c6].drop 0).take (Tryz.prog.cellsOf 3)) = some y0 := (hf 0 _ rfl).trans e0
    have f1 : DataW.trod enc Tryz.prog w base sp held m 9 (([c0, c1, c2, c3, c4, c5, c6].drop 1).take (Tryz.prog.cellsOf 9)) = some y1 := (hf 1 _ rfl).trans e1
    have f2 : DataW.trod enc Tryz.prog w base sp held m 9 (([c0, c1, c2, c3, c4, c5, c6].drop 2).take (Tryz.prog.cellsOf 9)) = some y2 := (hf 2 _ rfl).trans e2
    have f3 : DataW.trod enc Tryz.prog w base sp held m 3 (([c0, c1, c2, c3, c4, c5, c6].drop 3).take (Tryz.prog.cellsOf 3)) = some y3 := (hf 3 _ rfl).trans e3
    have f4 : DataW.trod enc Tryz.prog w base sp held m 3 (([c0, c1, c2, c3, c4, c5, c6].drop 4).take (Tryz.prog.cellsOf 3)) = some y4 := (hf 4 _ rfl).trans e4
    have f5 : DataW.trod enc Tryz.prog w base sp held m 4 (([c0, c1, c2, c3, c4, c5, c6].drop 5).take (Tryz.prog.cellsOf 4)) = some y5 := (hf 5 _ rfl).trans e5
    have f6 : DataW.trod enc Tryz.prog w base sp held m 30 (([c0, c1, c2, c3, c4, c5, c6].drop 6).take (Tryz.prog.cellsOf 30)) = some y6 := (hf 6 _ rfl).trans e6
    rw [cellsInt] at f0 f3 f4
    rw [cellsStr4] at f1 f2
    rw [cellsBool4] at f5
    rw [cellsInts4] at f6
    obtain ⟨k, g0, _, w0⟩ := DataW.trod_int Tryz.underlying3 f0
    obtain ⟨s, g1, _, w1⟩ := DataW.trod_string Tryz.underlying9 f1
    obtain ⟨t, g2, _, w2⟩ := DataW.trod_string Tryz.underlying9 f2
    obtain ⟨p, g3, _, w3⟩ := DataW.trod_int Tryz.underlying3 f3
    obtain ⟨q, g4, _, w4⟩ := DataW.trod_int Tryz.underlying3 f4
    obtain ⟨b, g5, _⟩ := DataW.trod_bool Tryz.underlying4 f5
    obtain ⟨l, hlk⟩ := ints_openK (v := c6) f6
    have hl := hlk.1
    obtain rfl : c0 = .int .i64 k := by simpa using g0
    obtain rfl : c1 = .string s := by simpa using g1
    obtain rfl : c2 = .string t := by simpa using g2
    obtain rfl : c3 = .int .i64 p := by simpa using g3
    obtain rfl : c4 = .int .i64 q := by simpa using g4
    obtain rfl : c5 = .bool b := by simpa using g5
    have hl2 := hl
    obtain ⟨a, c, rfl, _⟩ := hl2
    refine ⟨⟨k, s, t, p, q, b, a, c, l⟩, rfl, ⟨w1, w2, hl, w3, w4, fun ha => ?_⟩⟩
    have ha' : a = none := ha
    subst ha'
    rcases hlk.2 with e | ⟨a', n', c', e⟩
    · simp only [Value.slice.injEq] at e; exact ⟨e.2.1, e.2.2⟩
    · simp at e

/-- a list of acts -/
def ActsIn (w : World) (v : Value) (l : List OpV) : Prop :=
  ∃ a c, v = .slice a l.length c ∧ l.length ≤ 9223372036854775807 ∧ (0 < l.length → ∃ b off, a = some ⟨b, off, none⟩ ∧ b < w.heap.size ∧ ∀ i (o : OpV), l[i]? = some o → (∀ j u, o.cells.toList[j]? = some u → w.cell? ⟨b, off + i * 7 + j, none⟩ = some u) ∧ ActOk w o)
set_option maxRecDepth 100000 in
theorem acts_open {n : Nat} {v : Value} {x : DataW H × List MemPlace} (h : DataW.trod enc Tryz.prog w base sp held n 22 [v] = some x) : ∃ l, ActsIn w v l := by
  rcases Deep.open_slice Tryz.underlying22 h with ⟨hv, _⟩ | ⟨a, len, cap, m, q, D, Pl, hv, _, hl, hm, hmm, hx, hi⟩
  · simp only [List.cons.injEq, and_true] at hv
    exact ⟨[], none, 0, hv, by simp, fun h => absurd h (Nat.lt_irrefl _)⟩
  · simp only [List.cons.injEq, and_true] at hv
    have hlm : len ≤ m := by rw [hmm]; split <;> omega
    have hch : ∀ i, i < len → ∃ o : OpV, (∀ j, j < 7 → w.cell? ((a.add (i * 7)).add j) = o.cells.toList[j]?) ∧ ActOk w o := fun i hil => by
      obtain ⟨cs', h1, h2⟩ := hi i (by omega)
      obtain ⟨o, rfl, hd⟩ := act_open h2
      rw [cellsOp4] at h1
      exact ⟨o, (World.cells?_some h1).2.2, hd⟩
    obtain ⟨f, hf⟩ : ∃ f : Nat → OpV, ∀ i, i < len → (∀ j, j < 7 → w.cell? ((a.add (i * 7)).add j) = (f i).cells.toList[j]?) ∧ ActOk w (f i) := by
      refine ⟨fun i => if h : i < len then Classical.choose (hch i h) else ⟨0, ⟨#[]⟩, ⟨#[]⟩, 0, 0, false, none, 0, []⟩, fun i hil => ?_⟩
      simp only [hil, dif_pos]
      exact Classical.choose_spec (hch i hil)
    refine ⟨(List.range len).map f, some a, cap, by rw [hv]; simp, by simp; unfold maxLen at hm; omega, fun h0 => ?_⟩
    have h0' : 0 < len := by simpa using h0
    obtain ⟨b, off, spot⟩ := a
    have hc0 := (hf 0 h0').1 0 (by omega)
    have hspot : spot = none := by
      have := World.cell?_spot (w := w) (a := ((⟨b, off, spot⟩ : Addr).add (0 * 7)).add 0) hc0
      simpa [Addr.add] using this
    subst hspot
    have hadd : ∀ i j : Nat, ((⟨b, off, none⟩ : Addr).add (i * 7)).add j = ⟨b, off + i * 7 + j, none⟩ := fun i j => by
      rw [Go.WideShapes.add_plain, Go.WideShapes.add_plain]
    refine ⟨b, off, rfl, ?_, fun i o hio => ?_⟩
    · rw [hadd] at hc0
      exact World.block_lt_of_cell? w _ hc0
    · have hil : i < len := by have := (List.getElem?_eq_some_iff.1 hio).1; simpa using this
      rw [List.getElem?_map, List.getElem?_range hil] at hio
      obtain rfl : f i = o := by simpa using hio
      refine ⟨fun j u hju => ?_, (hf i hil).2⟩
      have hj7 : j < 7 := (List.getElem?_eq_some_iff.1 hju).1
      have h1 := (hf i hil).1 j hj7
      rw [hadd, hju] at h1
      exact h1
set_option maxRecDepth 100000 in
theorem act_open1 {r : Reach} {b0 : Nat} {v : Value} {d : DataW H} {p : List MemPlace} (hv : Value.okWide Tryz.prog w r b0 46 v) (h : DataW.Trod enc Tryz.prog w base sp held 46 v d p) : ∃ o : OpV, v = .agg o.cells ∧ ActOk w o := by
  obtain ⟨cs, rfl, hsz⟩ := Go.WideShapes.okWide_struct Tryz.underlying46 hv
  obtain ⟨fuel, hf⟩ := h
  obtain ⟨o, e, ho⟩ := act_open hf
  have e2 : cs.toList = o.cells.toList := e
  exact ⟨o, by rw [Array.toList_inj.1 e2], ho⟩
end

theorem ActOk.below {w w' : World} {o : OpV} (h : ActOk w o) (hb : Below w.heap.size w w') : ActOk w' o := ⟨h.S, h.T, h.L.below hb, h.wA, h.wB, h.nil⟩
theorem ActsIn.below {w w' : World} {v : Value} {l : List OpV} (h : ActsIn w v l) (hb : Below w.heap.size w w') : ActsIn w' v l := by
  obtain ⟨a, c, h1, hl, h2⟩ := h
  refine ⟨a, c, h1, hl, fun h0 => ?_⟩
  obtain ⟨b, off, h3, h4, h5⟩ := h2 h0
  exact ⟨b, off, h3, Nat.lt_of_lt_of_le h4 hb.size, fun i o hio => ⟨fun j u hju => by rw [hb.cell (p := ⟨b, off + i * 7 + j, none⟩) h4]; exact (h5 i o hio).1 j u hju, (h5 i o hio).2.below hb⟩⟩

end Go.Proofs.YtaabepiddbnggaaGreat.P3

/-
  The book's LentInts and StaysInts. (For any seat whose program has rootstockbook.)
-/
namespace Go.Proofs.YtaabepiddbnggaaGreat.P4
open Go Go.RowKit Go.Lib Go.Proofs.YtaabepiddbnggaaGreat.P3

theorem infoInt9 : (Tryz.prog.info? 3).map (fun i => (i.zero, i.size, i.bytes)) = some (some (.int .i64 0), 1, 8) := by kernel_rfl
set_option maxRecDepth 100000 in
theorem copyInts_any (w : World) (a : Option Addr) (c : Nat) (l : List Int) (h : IntsIn w (.slice a l.length c) l) (hnil : a = none → l.length = 0 ∧ c = 0) (hl : l.length ≤ 1000000) :
    Calls Tryz.prog 104 #[.slice a l.length c] w fun e w' => ∃ p q, e = .returned (.slice p l.length q) ∧ w'.ownsRow w.heap.size 3 1 (.slice p l.length q) l.length (l.map (Value.int .i64)) ∧ Below w.heap.size w w' := by
  obtain ⟨i0, hi, hz0, hz1, hz2⟩ := info_parts infoInt9
  obtain ⟨a', c', e, _, hc⟩ := h
  obtain ⟨rfl, rfl⟩ : a = a' ∧ c = c' := by simpa using e
  have hnews : Hid (∀ A, a = some A → ∀ j u, (l.map (Value.int .i64))[j]? = some u → w.cell? (A.add j) = some u) := fun A hA j u hu => by
    have hj : j < l.length := by
      have := (List.getElem?_eq_some_iff.1 hu).1
      simpa using this
    obtain ⟨b, off, h, _, hcc⟩ := hc (by omega)
    rw [hA] at h
    obtain rfl : A = ⟨b, off, none⟩ := by simpa using h
    rw [Go.WideShapes.add_plain, hcc j hj]
    rw [List.getElem?_map] at hu
    rw [List.getD_eq_getElem?_getD]
    obtain ⟨x, hx, rfl⟩ := Option.map_eq_some_iff.1 hu
    rw [hx]
    rfl
  clear hc e
  go_enter Tryz.func104, Tryz.ntmps104
  go_wp2_with (at_builtin; refine wpList_app rfl _ _ 30 rfl w.heap.size 3 i0 (.int .i64 0) 1 8 Tryz.underlying30 hi hz0 hz1 hz2 rfl (by decide) (.slice none 0 0) 0 [] rfl (World.ownsRow_nil _ _ _ _) a l.length c (l.map (Value.int .i64)) rfl (by simp) hnews.out hnil (by intro u hu; simp at hu; obtain ⟨s, _, rfl⟩ := hu; rfl) (by unfold maxLen; omega) (by omega) (Nat.le_refl _) ?_; intro p q w2 hown hgrow hat; have HB : Hid (Below w.heap.size w w2) := Fr.below (fr_grown hgrow (by intro k hk; cases hk)); have HO : Hid (w2.ownsRow w.heap.size 3 1 (.slice p l.length q) l.length (l.map (Value.int .i64))) := (by rw [Nat.zero_add, List.nil_append] at hown; exact hown); clear hown hgrow hat)
  go_ret
  exact ⟨p, q, by first | rfl | simp, HO.out, HB.out⟩

/-- a list that is lent: ints of one's own, a mark behind them -/
def LentI (lo : Nat) (w : World) (v : Value) (l : List Int) : Prop :=
  ∃ g c, v = .slice (some ⟨g, 0, none⟩) l.length c ∧ l.length + 1 ≤ c ∧ c ≤ 9223372036854775807 ∧ lo ≤ g ∧ g < w.heap.size ∧ (∀ (i : Nat) (x : Int), l[i]? = some x → w.cell? ⟨g, i, none⟩ = some (.int .i64 x)) ∧ w.cell? ⟨g, l.length, none⟩ = some (.int .i64 (-77))
theorem LentI.fr {S : Nat → Prop} {lo : Nat} {w w' : World} {v : Value} {l : List Int} (h : LentI lo w v l) (hf : Fr S w w') (hS : ∀ k, lo ≤ k → ¬ S k) : LentI lo w' v l := by
  obtain ⟨g, c, h1, h2, h3, h0, h4, h5, h6⟩ := h
  have e := hf.block g h4 (hS g h0)
  exact ⟨g, c, h1, h2, h3, h0, Nat.lt_of_lt_of_le h4 hf.size, fun i x hi => by rw [(heap_ext e i).1]; exact h5 i x hi, by rw [(heap_ext e l.length).1]; exact h6⟩
theorem LentI.below {lo : Nat} {w w' : World} {v : Value} {l : List Int} (h : LentI lo w v l) (hb : Below w.heap.size w w') : LentI lo w' v l := h.fr (Fr.of (S := fun _ => False) hb) fun _ _ => id
theorem LentI.ints {lo : Nat} {w : World} {v : Value} {l : List Int} (h : LentI lo w v l) (hl : l.length ≤ 1000000) : IntsIn w v l := by
  obtain ⟨g, c, h1, h2, h3, h0, h4, h5, h6⟩ := h
  exact ⟨_, c, h1, by omega, fun _ => ⟨g, 0, rfl, h4, fun i hi => by rw [Nat.zero_add, h5 i l[i] (List.getElem?_eq_getElem hi), List.getD_eq_getElem?_getD, List.getElem?_eq_getElem hi]; rfl⟩⟩
theorem LentI.intsR {lo : Nat} {S : Nat → Prop} {w : World} {v : Value} {l : List Int} (h : LentI lo w v l) (hS : ∀ k, lo ≤ k → ¬ S k) : IntsR S w v l := by
  obtain ⟨g, c, h1, h2, h3, h0, h4, h5, h6⟩ := h
  exact .inr ⟨g, 0, c, h1, h4, hS g h0, fun j x hj => by rw [Nat.zero_add]; exact h5 j x hj⟩
set_option maxRecDepth 100000 in
theorem lentInts_any (w : World) (a : Option Addr) (c : Nat) (l : List Int) (h : IntsIn w (.slice a l.length c) l) (hnil : a = none → l.length = 0 ∧ c = 0) (hl : l.length ≤ 1000000) :
    Calls Tryz.prog 36 #[.slice a l.length c] w fun e w' => ∃ g q, e = .returned (.slice (some ⟨g, 0, none⟩) l.length q) ∧ LentI w.heap.size w' (.slice (some ⟨g, 0, none⟩) l.length q) l ∧ Below w.heap.size w w' := by
  obtain ⟨i0, hi, hz0, hz1, hz2⟩ := info_parts infoInt9
  have H := Lib.hid (copyInts_any w a c l h hnil hl)
  clear h hnil
  go_enter Tryz.func36, Tryz.ntmps36
  go_wp2_with (first
    | (go_at_call 104; (with_reducible refine H.out.mono ?_); rintro e w1 ⟨p1, q1, rfl, hown, hb⟩; have HO := Lib.hid hown; have HB := Lib.hid hb; clear hown hb)
    | (at_builtin; go_loud (refine wpList_app rfl _ _ 30 rfl w.heap.size 3 i0 (.int .i64 0) 1 8 Tryz.underlying30 hi hz0 hz1 hz2 rfl (by decide) (.slice p1 l.length q1) l.length (l.map (Value.int .i64)) rfl (own_keep HO.out (below_new _ _)) (some ⟨w1.heap.size, 0, none⟩) 1 1 [.int .i64 (-77)] rfl rfl (by intro A hA; cases hA; exact cell_one_new _ _ _) (by intro e; cases e) (by intro u hu; simp at hu; subst hu; rfl) (by unfold maxLen; omega) (by omega) (thenBelow HB.out (below_new _ _)).size ?_; intro p2 q2 w2 hown2 hgrow2 hat2; have HB2 : Hid (Below w.heap.size w w2) := Fr.new (thenBelow HB.out (below_new _ _)) (fr_grown (S := fun q => (Value.slice p1 l.length q1).ownBlock = some q) hgrow2 (fun q e => e)) (fun q e => (owned_at HO.out e).1); have HO2 := Lib.hid hown2; obtain ⟨g2, c2, e2, hc2, hg2, hg3⟩ := owns_form hown2 (by omega); obtain ⟨rfl, rfl⟩ : p2 = some ⟨g2, 0, none⟩ ∧ q2 = c2 := (by simpa using e2); have b1 : (l.length : Int) ≤ (q2 : Int) := (by omega); have b0 : (0 : Int) ≤ (l.length : Int) := (by omega); clear hown2 hgrow2 hat2 e2)))
  go_ret
  have hlen : q2 ≤ 9223372036854775807 := by
    rcases HO2.out.2 with ⟨e, _⟩ | ⟨g, cap, cur, e, _, _, _, h5, _⟩
    · cases e
    · simp only [Value.slice.injEq] at e
      have e3 : maxLen = 9223372036854775807 := by decide
      omega
  have key : ∀ (i : Nat) (u : Value), (l.map (Value.int .i64) ++ [.int .i64 (-77)])[i]? = some u → w2.cell? ⟨g2, i, none⟩ = some u := fun i u hu => by
    have := HO2.out.cells (show (Value.slice (some ⟨g2, 0, none⟩) (l.length + 1 : Nat) q2).ownBlock = some g2 from rfl) i u hu
    rwa [Go.WideShapes.add_plain, Nat.zero_add] at this
  refine ⟨g2, q2, by first | rfl | simp, ⟨g2, q2, rfl, hc2, hlen, hg2, hg3, fun i x hx => key i _ ?_, key l.length _ ?_⟩, HB2.out⟩
  · have hil := (List.getElem?_eq_some_iff.1 hx).1
    rw [List.getElem?_append_left (by simpa using hil), List.getElem?_map, hx]
    rfl
  · rw [List.getElem?_append_right (by simp)]
    simp
set_option maxRecDepth 100000 in
theorem sameInts_same (w : World) (u v : Value) (l : List Int) (h1 : IntsIn w u l) (h2 : IntsIn w v l) :
    Calls Tryz.prog 106 #[u, v] w fun e w' => e = .returned (.bool true) ∧ Below w.heap.size w w' := by
  obtain ⟨a, c, rfl, hl, hc⟩ := h1
  obtain ⟨a2, c2, rfl, _, hc2⟩ := h2
  go_enter Tryz.func106, Tryz.ntmps106
  go_wp2
  go_loopw [5] (fun i wr => ∃ k q : Nat, k ≤ l.length ∧ i = .int .i64 k ∧ wr = w.drewN q) (fun i _ => l.length - (RowKit.intOf i).toNat)
  case atStart => exact ⟨0, 0, Nat.zero_le _, rfl, rfl⟩
  case round =>
    obtain ⟨k, q, hk, rfl, rfl⟩ := hrel
    by_cases hlt : k < l.length
    · obtain ⟨b, off, rfl, hb, hcc⟩ := hc (by omega)
      obtain ⟨b2, off2, rfl, hb2, hcc2⟩ := hc2 (by omega)
      have hcell := hcc k hlt
      have hcell2 := hcc2 k hlt
      have kk : (k : Int) < (l.length : Int) := by omega
      have kk0 : (0 : Int) ≤ (k : Int) := by omega
      have he : (l.getD k 0 == l.getD k 0) = true := beq_self_eq_true _
      generalize l.getD k 0 = s at hcell hcell2 he
      clear hcc hcc2 hc hc2
      go_wp2
      go_quiet (fail)
      go_wp2
      go_roundw
      case rel => exact ⟨k + 1, _, by omega, by go_num, rfl⟩
      case measure => simp [RowKit.intOf]; omega
    · clear hc hc2
      go_wp2
      go_ret
      exact ⟨rfl, ⟨rfl, rfl, rfl, Nat.le_refl _, fun _ _ => rfl⟩⟩
set_option maxRecDepth 100000 in
theorem staysInts_any {lo : Nat} (w : World) (u v : Value) (l : List Int) (h1 : LentI lo w u l) (h2 : IntsIn w v l) (hl : l.length ≤ 1000000) :
    Calls Tryz.prog 38 #[u, v] w fun e w' => e = .returned (.bool true) ∧ Below w.heap.size w w' := by
  have HH := Lib.hid (sameInts_same w u v l (h1.ints hl) h2)
  obtain ⟨a2, c2, rfl, _, _⟩ := h2
  obtain ⟨g, c, rfl, b1, b2, b0, b3, _, hm⟩ := h1
  have HB : Hid (∀ w', Below w.heap.size w w' → w'.cell? ⟨g, l.length, none⟩ = some (.int .i64 (-77))) := fun w' hb => (hb.cell (p := ⟨g, l.length, none⟩) b3).trans hm
  have k1 : (l.length : Int) + 1 ≤ (c : Int) := by omega
  have k2 : (0 : Int) ≤ (l.length : Int) + 1 := by omega
  have k3 : (l.length : Int) < (l.length : Int) + 1 := by omega
  have k4 : (0 : Int) ≤ (l.length : Int) := by omega
  have he : ((-77 : Int) == (-77 : Int)) = true := rfl
  clear hm
  go_enter Tryz.func38, Tryz.ntmps38
  go_wp2_with (go_at_call 106; (with_reducible refine HH.out.mono ?_); rintro e w1 ⟨rfl, hb⟩; have hcell := HB.out _ hb; have HB1 := Lib.hid hb; clear hb)
  go_ret
  exact ⟨by rfl, HB1.out⟩

end Go.Proofs.YtaabepiddbnggaaGreat.P4

/-
  The program's disk beside the document's, part 7: Crash, Restore, Arm, Room of both; what an act leaves.
-/
namespace Go.Proofs.YtaabepiddbnggaaGreat.P4
open Go Go.RowKit Go.Lib Go.Maps Go.ChangeMaps Go.MapKept Go.Proofs.YtaabepiddbnggaaGreat.P3

section
variable {a w w' w1 w2 : World} {d r : Nat} {K K1 : Dk} {D D1 : RM} {ks : List Int}
theorem ints_over {W : World} (hb : Below a.heap.size a W) {v : Value} {xs : List Int} (hv : IntsIn a v xs) {S : Nat → Prop} (hS : ∀ k, S k → a.heap.size ≤ k) : IntsR S W v xs := by
  obtain ⟨p, c, rfl, _, h3⟩ := hv
  by_cases h0 : 0 < xs.length
  · obtain ⟨b, off, rfl, hb2, hc⟩ := h3 h0
    refine .inr ⟨b, off, c, rfl, Nat.lt_of_lt_of_le hb2 hb.size, fun q => by have := hS b q; omega, fun j x hj => ?_⟩
    have hl := (List.getElem?_eq_some_iff.1 hj).1
    rw [hb.cell (p := ⟨b, off + j, none⟩) hb2, hc j hl, List.getD_eq_getElem?_getD, hj]
    rfl
  · obtain rfl : xs = [] := List.eq_nil_of_length_eq_zero (by omega)
    exact .inl ⟨p, c, rfl, rfl⟩
/-- two calls, one of each disk, that tell nothing -/
def TwoU (a w : World) (d : Nat) (K : Dk) (r : Nat) (D : RM) (ks : List Int) (f1 f2 : Nat) (a1 a2 : Array Value) : Prop :=
  Calls Tryz.prog f1 a1 w fun e w1 => e = .returned (.tuple #[]) ∧ Fr (K.foot d) w w1 ∧ ∀ W, Below w1.heap.size w1 W → Calls Tryz.prog f2 a2 W fun e w2 => e = .returned (.tuple #[]) ∧ ∃ K1 D1, PStep a w d K r D w2 K1 D1 ks
theorem Pr.twoU {ks' : List Int} (h : Pr a w d K r D ks) {f1 f2 : Nat} {a1 a2 : Array Value} {Q : Dk → Prop}
    (c1 : Calls Tryz.prog f1 a1 w fun e w1 => ∃ K1, e = .returned (.tuple #[]) ∧ Step w d K w1 K1 ∧ Q K1)
    (c2 : ∀ K1, Q K1 → ∀ W, RAt a.heap.size W r D → Calls Tryz.prog f2 a2 W fun e w2 => e = .returned (.tuple #[]) ∧ ∃ D1, RStep a.heap.size W r D w2 D1 ∧ Eqv K1 D1 ks' ∧ IntsIn a D1.kv ks' ∧ K1.turn ≤ K.turn + 1) :
    TwoU a w d K r D ks' f1 f2 a1 a2 := by
  refine c1.mono ?_
  rintro e w1 ⟨K1, rfl, hs, hq⟩
  refine ⟨rfl, hs.fr, fun W hW => ?_⟩
  have hs2 := hs.trans (Step.below hs.at' hW)
  refine (c2 K1 hq W (h.at2' hs2)).mono ?_
  rintro e w2 ⟨rfl, D1, h5, h6, h7, h8⟩
  exact ⟨rfl, K1, D1, h.step hs2 h5 h6 h7 h8⟩
theorem two_crash (h : Pr a w d K r D ks) (ht : K.turn < 9000) (xs : List Int) {v1 v2 : Value} (h1 : IntsR (K.wfoot d) w v1 xs) (h2 : IntsIn a v2 xs) : Two a w d K r D ks 19 37 #[.pointer (some ⟨d, 0, none⟩), v1] #[.pointer (some ⟨r, 0, none⟩), v2] := by
  obtain ⟨s1, s2, s3, s4⟩ := h.eqv.sizes h.at1 (by omega)
  have hoff := h.eqv.on
  cases hon : K.on with
  | false =>
    have ho : D.off = true := by rw [hoff, hon]; rfl
    refine (crash_off w d v1 ((cell_at h.at1.blk 1).trans (by rw [← hon]; rfl))).mono ?_
    rintro e w1 ⟨rfl, rfl⟩
    refine ⟨0, rfl, (Step.below h.at1 (Below.refl _ _)).fr, fun W hW => ?_⟩
    have hs2 := Step.below h.at1 hW
    obtain ⟨p, c, e2, _⟩ := h2
    refine ((h.at2' hs2).crash_off ho v2 ⟨p, _, c, e2⟩).mono ?_
    rintro e w2 ⟨rfl, rfl⟩
    exact ⟨rfl, K, D, h.step hs2 (RStep.below (h.at2' hs2) (Below.refl _ _)) h.eqv h.kint (Nat.le_succ _)⟩
  | true =>
    have ho : D.off = false := by rw [hoff, hon]; rfl
    refine (crash_disk h.at1 hon h1).mono ?_
    rintro e w1 ⟨n, K1, rfl, hcr⟩
    refine ⟨n, rfl, hcr.step.fr, fun W hW => ?_⟩
    have hs2 := hcr.step.trans (Step.below hcr.step.at' hW)
    have hb2 : Below a.heap.size a W := Fr.new h.below hs2.fr h.f1
    have hR := h.at2' hs2
    refine (hR.crash ho xs v2 (ints_over hb2 h2 fun k hk => (hR.own_lt hk).1) s1 s2).mono ?_
    rintro e w2 ⟨E, rfl, hs, hcm⟩
    obtain ⟨e1, e2⟩ := h.eqv.crash h.at1 hcr hcm
    refine ⟨by rw [e1], K1, E, h.step hs2 hs e2 (by rw [hcm.kv]; exact h.kint) (by rw [hcr.eq]; exact Nat.le_succ _)⟩
theorem two_restore (h : Pr a w d K r D ks) : TwoU a w d K r D ks 20 39 #[.pointer (some ⟨d, 0, none⟩)] #[.pointer (some ⟨r, 0, none⟩)] := by
  refine h.twoU (Q := fun K1 => K1 = { K with on := true }) (h.at1.restore.mono fun e w1 ⟨h1, h2⟩ => ⟨_, h1, h2, rfl⟩) ?_
  rintro K1 rfl W hW
  refine hW.restore.mono ?_
  rintro e w2 ⟨h1, h2⟩
  have q := h.eqv
  exact ⟨h1, _, h2, ⟨q.abs, rfl, q.room, q.armed, q.left, q.calm, q.nle, q.few, ⟨q.inv.turns, q.inv.tmax, q.inv.own, q.inv.ids, q.inv.idm, q.inv.idt, q.inv.redo⟩⟩, h.kint, Nat.le_succ _⟩
theorem two_arm (h : Pr a w d K r D ks) (n : Int) (hn : n ≤ 9223372036854775807) {xs : List Int} (hl : xs.length ≤ 10000) {g c : Nat} (hgd : g ≠ d) (hc : ∀ j, j < xs.length → w.cell? ⟨g, 0 + j, none⟩ = some (.int .i64 (xs.getD j 0))) {v2 : Value} (hv : IntsIn a v2 xs) :
    TwoU a w d K r D xs 40 41 #[.pointer (some ⟨d, 0, none⟩), .int .i64 n, .slice (some ⟨g, 0, none⟩) xs.length c] #[.pointer (some ⟨r, 0, none⟩), .int .i64 n, v2] := by
  obtain ⟨p, c2, ev, _⟩ := id hv
  have q := h.eqv
  by_cases hn0 : 0 ≤ n
  · refine h.twoU (Q := fun K1 => ∃ v', K1 = { K with armed := true, left := n, kv := v', keep := xs }) ((h.at1.arm n hn0 g 0 c xs (by omega) hgd hc).mono fun e w1 ⟨v', h1, h2⟩ => ⟨_, h1, h2, v', rfl⟩) ?_
    rintro K1 ⟨v', rfl⟩ W hW
    refine (hW.arm n v2 ⟨p, _, c2, ev⟩).mono ?_
    rintro e w2 ⟨h1, h2⟩
    exact ⟨h1, _, h2, ⟨q.abs, q.on, q.room, (decide_eq_true hn0).symm, fun _ => ⟨rfl, rfl, hn0⟩, fun ha => absurd hn0 (of_decide_eq_false (show decide (0 ≤ n) = false from ha)), hn, hl, ⟨q.inv.turns, q.inv.tmax, q.inv.own, q.inv.ids, q.inv.idm, q.inv.idt, q.inv.redo⟩⟩, hv, Nat.le_succ _⟩
  · have hb := h.at1.blk
    refine h.twoU (Q := fun K1 => K1 = { K with armed := false, left := 0, kv := .slice none 0 0, keep := [] }) ((arm_neg w d n _ _ _ _ (cell_at hb 4) (cell_at hb 5) (cell_at hb 6) (free_at hb 4) (free_at hb 5) (free_at hb 6) (by omega)).mono fun e w1 ⟨h1, h2⟩ => ⟨_, h1, ?_, rfl⟩) ?_
    · subst h2
      have ho : Only d w (((w.setCell ⟨d, 4, none⟩ (.bool false)).setCell ⟨d, 5, none⟩ (.int .i64 0)).setCell ⟨d, 6, none⟩ (.slice none 0 0)) := (((Only.refl d w).setCell _ _).setCell _ _).setCell _ _
      refine ⟨h.at1.own ho (set_at (set_at (set_at hb 4 _) 5 _) 6 _) rfl rfl (World.ownsRow_nil _ _ _ _) (Nat.le_refl _) h.at1.many.2, ?_, .only ho (.inl rfl)⟩
      rintro k (hk | hk | hk | hk)
      · exact .inl (.inl hk)
      · exact .inl (.inr (.inl hk))
      · exact .inl (.inr (.inr (.inl hk)))
      · cases hk
    · rintro K1 rfl W hW
      refine (hW.arm n v2 ⟨p, _, c2, ev⟩).mono ?_
      rintro e w2 ⟨h1, h2⟩
      exact ⟨h1, _, h2, ⟨q.abs, q.on, q.room, (decide_eq_false hn0).symm, fun ha => absurd (of_decide_eq_true ha) hn0, fun _ => ⟨rfl, rfl⟩, hn, Nat.zero_le _, ⟨q.inv.turns, q.inv.tmax, q.inv.own, q.inv.ids, q.inv.idm, q.inv.idt, q.inv.redo⟩⟩, hv, Nat.le_succ _⟩
theorem dkroom_any (h : DiskAt w d K) (i : Int) : Calls Tryz.prog 42 #[.pointer (some ⟨d, 0, none⟩), .int .i64 i] w fun e w' => e = .returned (.tuple #[]) ∧ Step w d K w' { K with room := i } := by
  have c2 : w.cell? ⟨d, 2, none⟩ = some (.int .i64 K.room) := cell_at h.blk 2
  have f2 := free_at h.blk 2
  have HS : Hid (Step w d K (w.setCell ⟨d, 2, none⟩ (.int .i64 i)) { K with room := i }) := .own h ((Only.refl d w).setCell 2 _) (set_at h.blk 2 _) rfl rfl ⟨rfl, rfl⟩ (Nat.le_refl _) h.many.2
  clear h
  go_enter Tryz.func42, Tryz.ntmps42
  go_wp2
  go_end0
  exact ⟨rfl, HS.out⟩
theorem Pr.roomed (h : Pr a w d K r D ks) (i : Int) (h1 : Step w d K w1 { K with room := i }) : w1.cell? ⟨r, 3, none⟩ = some (.int .i64 D.room) ∧ w1.frozen? ⟨r, 3, none⟩ = false ∧ PStep a w d K r D (w1.setCell ⟨r, 3, none⟩ (.int .i64 i)) { K with room := i } { D with room := i } ks := by
  have hR := h.at2' h1
  have q := h.eqv
  exact ⟨hR.cell 3, hR.free 3, h.step h1 (RStep.only hR 3 (.int .i64 i) { D with room := i } rfl rfl rfl rfl rfl) ⟨q.abs, q.on, rfl, q.armed, q.left, q.calm, q.nle, q.few, ⟨q.inv.turns, q.inv.tmax, q.inv.own, q.inv.ids, q.inv.idm, q.inv.idt, q.inv.redo⟩⟩ h.kint (Nat.le_succ _)⟩
theorem Pr.idle (h : Pr a w d K r D ks) (hb : Below w.heap.size w w') : PStep a w d K r D w' K D ks :=
  ⟨h.over hb, fun _ q => .inl q, fun _ q => .inl q, fun _ q => .inl q, Fr.of hb, Nat.le_succ _⟩
theorem PStep.under (hb : Below w.heap.size w w1) (h : PStep a w1 d K r D w2 K1 D1 ks) : PStep a w d K r D w2 K1 D1 ks := by
  have hz : w.heap.size ≤ w1.heap.size := hb.size
  refine ⟨h.pr, fun k q => ?_, fun k q => ?_, fun k q => ?_, (Fr.of hb).trans h.fr, h.tn⟩
  · rcases h.kf k q with e | e
    · exact .inl e
    · exact .inr (Nat.le_trans hz e)
  · rcases h.df k q with e | e
    · exact .inl e
    · exact .inr (Nat.le_trans hz e)
  · rcases h.do_ k q with e | e
    · exact .inl e
    · exact .inr (Nat.le_trans hz e)
theorem PStep.over (h : PStep a w d K r D w1 K1 D1 ks) (hb : Below w1.heap.size w1 w2) : PStep a w d K r D w2 K1 D1 ks :=
  ⟨h.pr.over hb, h.kf, h.df, h.do_, h.fr.trans (Fr.of hb), h.tn⟩
/-- what an act leaves -/
def ActP (a w : World) (d : Nat) (K : Dk) (r : Nat) (D : RM) (e : Ending) (w' : World) : Prop := e = .returned (.bool true) ∧ ∃ K1 D1 ks1, PStep a w d K r D w' K1 D1 ks1
end

end Go.Proofs.YtaabepiddbnggaaGreat.P4
