/-
  The statements' helpers on lists of texts: copyTexts, LentTexts, SameTexts, StaysTexts, by contracts; such a list as an argument.
-/
import Derived.Test.YtgkcjidjnoehbaaBook0
import Derived.Laws.AppendOwnNone
import Derived.Deep.RegionHeld3
import Derived.OpenShut
import Derived.SliceStrings
namespace Go.Proofs.Ytgkcjidjnoehbaa.P0
open Go Go.RowKit Go.Lib

theorem texts_open {H : Type} {enc : TypeId × Value → H} {w : World} {base : Nat} {sp : Nat → Bool} {held : Bool} {n : Nat} {v : Value} {x : DataW H × List MemPlace}
    (h : DataW.trod enc Try.prog w base sp held n 22 [v] = some x) : ∃ l, TextsIn w v l := by
  rcases Go.ChangeShapes.open_strings Try.underlying22 Try.underlying9 (show Try.prog.cellsOf 9 = 1 by kernel_rfl) h with ⟨hv, _⟩ | ⟨a, len, cap, ss, hv, _, hl, hm, hz, _, hcell, hsz⟩
  · simp only [List.cons.injEq, and_true] at hv
    exact ⟨[], hv ▸ TextsIn.nil w⟩
  · simp only [List.cons.injEq, and_true] at hv
    have hlen : len ≤ ss.length := by rw [hz]; split <;> omega
    have hm2 : maxLen = 9223372036854775807 := by decide
    refine ⟨ss.take len, some a, cap, by rw [hv, List.length_take, Nat.min_eq_left hlen], (fun h => by cases h), by rw [List.length_take]; omega, fun i hi => ?_, fun h0 => ?_⟩
    · rw [List.getElem_take]
      have := hsz _ (List.getElem_mem (l := ss) (n := i) (by rw [List.length_take] at hi; omega))
      omega
    · rw [List.length_take, Nat.min_eq_left hlen] at h0
      obtain ⟨b, off, spot⟩ := a
      have hc0 := hcell 0 (by omega)
      have hspot : spot = none := by
        have := World.cell?_spot (w := w) (a := (⟨b, off, spot⟩ : Addr).add 0) hc0
        simpa [Addr.add] using this
      subst hspot
      refine ⟨b, off, rfl, ?_, fun i hi => ?_⟩
      · rw [Go.WideShapes.add_plain] at hc0
        exact World.block_lt_of_cell? w _ hc0
      · rw [List.length_take] at hi
        have := hcell i (by omega)
        rw [Go.WideShapes.add_plain] at this
        rw [this, List.getElem_take]
        simp [show i < ss.length by omega]

theorem infoString : (Try.prog.info? 9).map (fun i => (i.zero, i.size, i.bytes)) = some (some (.string ⟨#[]⟩), 1, 16) := by kernel_rfl

theorem copyTexts_any (w : World) (v : Value) (l : List ByteArray) (h : TextsIn w v l) (hl : l.length ≤ 1000000) :
    Calls Try.prog 18 #[v] w fun e w' => ∃ u, e = .returned u ∧ w'.ownsRow w.heap.size 9 1 u l.length (l.map Value.string) ∧ Below w.heap.size w w' := by
  obtain ⟨i0, hi, hz0, hz1, hz2⟩ := info_parts infoString
  obtain ⟨a, c, rfl, hn, _, _, hc⟩ := h
  rcases a with _ | a
  · obtain rfl := hn rfl
    have hl0 : l = [] := by
      rcases l with _ | ⟨s, l⟩
      · rfl
      · obtain ⟨b, off, h, _⟩ := hc (by simp)
        cases h
    subst hl0
    clear hn hc hl
    go_enter Try.func18, Try.ntmps18
    go_wp2_with (at_builtin; refine wpList_append_own_none rfl _ _ 22 rfl w.heap.size 9 i0 1 Try.underlying22 hi _ 0 [] rfl (World.ownsRow_nil _ _ _ _) rfl ?_)
    go_ret
    exact ⟨_, rfl, World.ownsRow_nil _ _ _ _, Below.refl _ _⟩
  · have hnews : ∀ j u, (l.map Value.string)[j]? = some u → w.cell? (a.add j) = some u := fun j u hu => by
      have hj : j < l.length := by
        have := (List.getElem?_eq_some_iff.1 hu).1
        simpa using this
      obtain ⟨b, off, h, _, hcc⟩ := hc (by omega)
      obtain rfl : a = ⟨b, off, none⟩ := by simpa using h
      rw [Go.WideShapes.add_plain, hcc j hj]
      simpa [hj] using hu
    clear hn hc
    go_enter Try.func18, Try.ntmps18
    go_wp2_with (at_builtin; refine wpList_append_own _ rfl _ _ 22 rfl w.heap.size 9 i0 (.string ⟨#[]⟩) 1 16 Try.underlying22 hi hz0 hz1 hz2 rfl (by decide) _ 0 [] rfl (World.ownsRow_nil _ _ _ _) a l.length c (l.map Value.string) rfl ?c0 hnews ?c2 ?c3 ?c4 (Nat.le_refl _) ?_)
    case c0 => simp
    case c2 => intro u hu; simp at hu; obtain ⟨s, _, rfl⟩ := hu; rfl
    case c3 => unfold maxLen; omega
    case c4 => omega
    intro v' w2 hown hgrow _
    have hB : Below w.heap.size w w2 := (Below.refl _ w).grown hgrow (Nat.le_refl _) (fun k hk => by cases hk)
    clear hnews hgrow
    go_wp2
    go_ret
    exact ⟨_, rfl, hown, hB⟩

/-- a list that is lent: texts of one's own, a mark behind them -/
def Lent (w : World) (v : Value) (l : List ByteArray) : Prop :=
  ∃ g c, v = .slice (some ⟨g, 0, none⟩) l.length c ∧ l.length + 1 ≤ c ∧ c ≤ 9223372036854775807 ∧ g < w.heap.size ∧ (∀ i (h : i < l.length), w.cell? ⟨g, i, none⟩ = some (.string l[i])) ∧ w.cell? ⟨g, l.length, none⟩ = some (.string ⟨#[109, 97, 114, 107]⟩)
theorem Lent.below {w w' : World} {v : Value} {l : List ByteArray} (h : Lent w v l) (hb : Below w.heap.size w w') : Lent w' v l := by
  obtain ⟨g, c, h1, h2, h3, h4, h5, h6⟩ := h
  exact ⟨g, c, h1, h2, h3, Nat.lt_of_lt_of_le h4 hb.size, fun i hi => (hb.cell (p := ⟨g, i, none⟩) h4).trans (h5 i hi), (hb.cell (p := ⟨g, l.length, none⟩) h4).trans h6⟩
theorem Lent.texts {w : World} {v : Value} {l : List ByteArray} (h : Lent w v l) (hl : l.length ≤ 9223372036854775807) (hz : ∀ i (h : i < l.length), l[i].size ≤ 9223372036854775807) : TextsIn w v l := by
  obtain ⟨g, c, h1, h2, h3, h4, h5, h6⟩ := h
  exact ⟨_, c, h1, (fun h => by cases h), hl, hz, fun _ => ⟨g, 0, rfl, h4, fun i hi => by rw [Nat.zero_add]; exact h5 i hi⟩⟩

theorem lent_row {w : World} {base : Nat} {v : Value} {l : List ByteArray} (h : w.ownsRow base 9 1 v (l.length + 1) (l.map Value.string ++ [.string ⟨#[109, 97, 114, 107]⟩])) :
    ∃ g c, v = .slice (some ⟨g, 0, none⟩) (l.length + 1) c ∧ l.length + 1 ≤ c ∧ c ≤ 9223372036854775807 ∧ g < w.heap.size ∧ (∀ i (h : i < l.length), w.cell? ⟨g, i, none⟩ = some (.string l[i])) ∧ w.cell? ⟨g, l.length, none⟩ = some (.string ⟨#[109, 97, 114, 107]⟩) := by
  have hc := fun g => h.cells (g := g)
  rcases h.2 with ⟨_, e⟩ | ⟨g, cap, cur, rfl, _, hg, hle, hm, _, _⟩
  · omega
  · have hcc := hc g rfl
    refine ⟨g, cap, rfl, hle, hm, lt_of_block hg, fun i hi => ?_, ?_⟩
    · have := hcc i (.string l[i]) (by rw [List.getElem?_append_left (by simpa using hi)]; simp [hi])
      rwa [Go.WideShapes.add_plain, Nat.zero_add] at this
    · have := hcc l.length _ (by rw [List.getElem?_append_right (by simp)]; simp; rfl)
      rwa [Go.WideShapes.add_plain, Nat.zero_add] at this

theorem lentTexts_any (w : World) (v : Value) (l : List ByteArray) (h : TextsIn w v l) (hl : l.length ≤ 1000000) :
    Calls Try.prog 9 #[v] w fun e w' => ∃ u, e = .returned u ∧ Lent w' u l ∧ Below w.heap.size w w' := by
  obtain ⟨i0, hi, hz0, hz1, hz2⟩ := info_parts infoString
  have H := Lib.hid (copyTexts_any w v l h hl)
  obtain ⟨a, c, rfl, _, _, _, _⟩ := h
  go_enter Try.func9, Try.ntmps9
  go_wp2_with (first
    | (go_at_call 18; refine H.out.mono ?_; rintro e w1 ⟨u, rfl, hown, hB⟩; obtain ⟨a1, c1, rfl⟩ := len_owned hown)
    | (at_builtin; refine wpList_append_own _ rfl _ _ 22 rfl w.heap.size 9 i0 (.string ⟨#[]⟩) 1 16 Try.underlying22 hi hz0 hz1 hz2 rfl (by decide) _ l.length (l.map Value.string) rfl (hown.alloc _) ⟨w1.heap.size, 0, none⟩ 1 1 [.string ⟨#[109, 97, 114, 107]⟩] rfl rfl ?c1 ?c2 ?c3 ?c4 ?c5 ?_))
  case c1 => exact cell_one_new _ _ _
  case c2 => intro u hu; simp at hu; subst hu; rfl
  case c3 => unfold maxLen; omega
  case c4 => omega
  case c5 => have := hB.size; simp; omega
  intro v' w2 hown' hgrow _
  have hB2 : Below w.heap.size w w2 := (hB.alloc hB.size _).grown hgrow (by have := hB.size; simp; omega) (fun q hq => (hown.lt q hq).1)
  obtain ⟨g, c2, rfl, h1, h2, h3, h4, h5⟩ := lent_row hown'
  have hL : Lent w2 (.slice (some ⟨g, 0, none⟩) l.length c2) l := ⟨g, c2, rfl, h1, h2, h3, h4, h5⟩
  have b1 : (l.length : Int) ≤ (c2 : Int) := by omega
  have b0 : (0 : Int) ≤ (l.length : Int) := by omega
  clear hown' hgrow hown hB h4 h5
  go_wp2
  go_ret
  exact ⟨_, rfl, hL, hB2⟩

theorem list_get_ne {l m : List ByteArray} {k : Nat} (h1 : k < l.length) (h2 : k < m.length) (h : l[k] ≠ m[k]) : l ≠ m := by
  intro e; subst e; exact h rfl
theorem sameTexts_any (w : World) (u v : Value) (l m : List ByteArray) (h1 : TextsIn w u l) (h2 : TextsIn w v m) :
    Calls Try.prog 21 #[u, v] w fun e w' => e = .returned (.bool (decide (l = m))) ∧ Below w.heap.size w w' := by
  obtain ⟨d, hd⟩ : ∃ d, d = decide (l = m) := ⟨_, rfl⟩
  rw [← hd]
  obtain ⟨a, c, rfl, _, hl, _, hc⟩ := h1
  obtain ⟨a2, c2, rfl, _, _, _, hc2⟩ := h2
  by_cases hlen : l.length = m.length
  · have k0 : ((l.length : Int) != (m.length : Int)) = false := by simp [hlen]
    have HD := Lib.hid hd
    clear hd
    go_enter Try.func21, Try.ntmps21
    go_wp2
    go_loopw [5] (fun i wr => ∃ k q : Nat, k ≤ l.length ∧ i = .int .i64 k ∧ wr = w.drewN q ∧ Hid (∀ j (h : j < l.length) (h' : j < m.length), j < k → l[j] = m[j])) (fun i _ => l.length - (RowKit.intOf i).toNat)
    case atStart => exact ⟨0, 0, Nat.zero_le _, rfl, rfl, fun j _ _ h => absurd h (Nat.not_lt_zero _)⟩
    case round =>
      obtain ⟨k, q, hk, rfl, rfl, hsame⟩ := hrel
      by_cases hlt : k < l.length
      · obtain ⟨b, off, rfl, hb, hcc⟩ := hc (by omega)
        obtain ⟨b2, off2, rfl, hb2, hcc2⟩ := hc2 (by omega)
        have hlt2 : k < m.length := by omega
        have hcell := hcc k hlt
        have hcell2 := hcc2 k hlt2
        have hne := list_get_ne hlt hlt2
        have hnx : l[k] = m[k] → Hid (∀ j (h : j < l.length) (h' : j < m.length), j < k + 1 → l[j] = m[j]) := fun e j hj hj' h => by
          by_cases ej : j = k
          · subst ej; exact e
          · exact hsame.out j hj hj' (by omega)
        have kk : (k : Int) < (l.length : Int) := by omega
        have kk2 : (k : Int) < (m.length : Int) := by omega
        have kk0 : (0 : Int) ≤ (k : Int) := by omega
        generalize l[k] = s at hcell hne hnx
        generalize m[k] = t at hcell2 hne hnx
        clear hcc hcc2 hc hc2 hsame
        by_cases e : s = t
        · have he := same_true e
          have hN := hnx e
          clear hne hnx
          go_wp2
          go_quiet (fail)
          go_wp2
          go_roundw
          case rel => exact ⟨k + 1, _, by omega, by go_num, rfl, hN⟩
          case measure => simp [RowKit.intOf]; omega
        · have he := same_false e
          have hdf : Hid (d = false) := HD.out.trans (decide_eq_false (hne e))
          clear hne hnx e
          go_wp2
          go_quiet (fail)
          go_wp2
          go_ret
          exact ⟨by rw [hdf.out]; rfl, ⟨rfl, rfl, rfl, Nat.le_refl _, fun _ _ => rfl⟩⟩
      · have hdt : Hid (d = true) := HD.out.trans (decide_eq_true (List.ext_getElem hlen fun j hj hj' => hsame.out j hj hj' (by omega)))
        clear hsame hc hc2
        go_wp2
        go_ret
        exact ⟨by rw [hdt.out]; rfl, ⟨rfl, rfl, rfl, Nat.le_refl _, fun _ _ => rfl⟩⟩
  · have k0 : ((l.length : Int) != (m.length : Int)) = true := by simp; omega
    have hdf : Hid (d = false) := hd.trans (decide_eq_false (fun e => hlen (congrArg List.length e)))
    clear hd hlen hc hc2
    go_enter Try.func21, Try.ntmps21
    go_wp2
    go_ret
    exact ⟨by rw [hdf.out]; rfl, Below.refl _ _⟩

theorem staysTexts_any (w : World) (u v : Value) (l : List ByteArray) (h1 : Lent w u l) (h2 : TextsIn w v l) :
    Calls Try.prog 14 #[u, v] w fun e w' => e = .returned (.bool true) ∧ Below w.heap.size w w' := by
  have ht : TextsIn w u l := by obtain ⟨_, _, _, _, hl, hz, _⟩ := h2; exact h1.texts hl hz
  have H := sameTexts_any w u v l l ht h2
  rw [decide_eq_true rfl] at H
  have HH := Lib.hid H
  have hl : l.length ≤ 9223372036854775807 := by obtain ⟨_, _, _, _, hl, _⟩ := h2; exact hl
  obtain ⟨g, c, rfl, b1, b2, b3, _, hm⟩ := h1
  have HB : ∀ w', Below w.heap.size w w' → w'.cell? ⟨g, l.length, none⟩ = some (.string ⟨#[109, 97, 114, 107]⟩) := fun w' hb => (hb.cell (p := ⟨g, l.length, none⟩) b3).trans hm
  have k1 : (l.length : Int) + 1 ≤ (c : Int) := by omega
  have k2 : (0 : Int) ≤ (l.length : Int) + 1 := by omega
  have k3 : (l.length : Int) < (l.length : Int) + 1 := by omega
  have k4 : (0 : Int) ≤ (l.length : Int) := by omega
  have he := same_true (rfl : (⟨#[109, 97, 114, 107]⟩ : ByteArray) = ⟨#[109, 97, 114, 107]⟩)
  clear H ht h2 hm
  go_enter Try.func14, Try.ntmps14
  go_wp2_with (go_at_call 21; refine HH.out.mono ?_; rintro e w1 ⟨rfl, hb⟩; have hcell := HB _ hb)
  go_ret
  exact ⟨rfl, hb⟩

end Go.Proofs.Ytgkcjidjnoehbaa.P0
