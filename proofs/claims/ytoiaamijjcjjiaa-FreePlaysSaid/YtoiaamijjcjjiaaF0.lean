/-
  The reference's lists of ids: In, Drop, Put. (For any seat that has rootstockref1.Put.)
-/
import Derived.Test.YtoiaamijjcjjiaaK3Ints
import Derived.Test.YtoiaamijjcjjiaaKAp
namespace Go.Proofs.Ytoiaamijjcjjiaa.P7
open Go Go.RowKit Go.Lib Go.Proofs.Ytoiaamijjcjjiaa.PK

/-- ints as elements -/
def il (l : List Int) : List (List Value) := l.map fun x => [.int .i64 x]
theorem il_length (l : List Int) : (il l).length = l.length := by simp [il]
theorem il_ok (l : List Int) : Oks kInts (il l) := fun x hx => by
  obtain ⟨z, _, rfl⟩ := List.mem_map.1 hx
  exact ⟨z, rfl⟩
theorem il_flat (l : List Int) : (il l).flatten = l.map (Value.int .i64) := by
  induction l with
  | nil => rfl
  | cons x l ih =>
    show [Value.int .i64 x] ++ (il l).flatten = _
    rw [ih]; rfl
theorem ints_one (l : List Int) : ∀ u ∈ l.map (Value.int .i64), u.oneCell' = true := fun u hu => by
  obtain ⟨x, _, rfl⟩ := List.mem_map.1 hu
  rfl
/-- a list of ints: what the value v reads as -/
def IL (w : World) (v : Value) (l : List Int) : Prop :=
  ∃ a c, v = .slice a l.length c ∧ (a = none → c = 0) ∧ l.length ≤ 9223372036854775807 ∧ (0 < l.length → ∃ b off, a = some ⟨b, off, none⟩ ∧ b < w.heap.size ∧ ∀ (i : Nat) (x : Int), l[i]? = some x → w.cell? ⟨b, off + i, none⟩ = some (.int .i64 x))
theorem IL.nil (w : World) : IL w (.slice none 0 0) [] := ⟨none, 0, rfl, fun _ => rfl, by simp, fun h => absurd h (Nat.lt_irrefl _)⟩
theorem IL.below {w w' : World} {v : Value} {l : List Int} (h : IL w v l) (hb : Below w.heap.size w w') : IL w' v l := by
  obtain ⟨a, c, h1, hn, hl, h2⟩ := h
  refine ⟨a, c, h1, hn, hl, fun h0 => ?_⟩
  obtain ⟨b, off, h3, h4, h5⟩ := h2 h0
  exact ⟨b, off, h3, Nat.lt_of_lt_of_le h4 hb.size, fun i x hi => by rw [hb.cell (p := ⟨b, off + i, none⟩) h4]; exact h5 i x hi⟩
theorem IL.elems {w : World} {v : Value} {l : List Int} (h : IL w v l) : ElemsIn kInts w v (il l) := by
  obtain ⟨a, c, h1, hn, hl, h2⟩ := h
  refine ⟨a, c, by rw [il_length]; exact h1, hn, by rw [il_length]; exact hl, il_ok l, fun h0 => ?_⟩
  rw [il_length] at h0
  obtain ⟨b, off, h3, h4, h5⟩ := h2 h0
  refine ⟨b, off, h3, h4, fun i x hi j u hj => ?_⟩
  unfold il at hi
  rw [List.getElem?_map] at hi
  obtain ⟨z, hz, rfl⟩ := Option.map_eq_some_iff.1 hi
  have hj0 : j = 0 := by have := (List.getElem?_eq_some_iff.1 hj).1; simpa using this
  subst hj0
  obtain rfl : Value.int .i64 z = u := by simpa using hj
  rw [show off + (i * kInts.n + 0) = off + i by show off + (i * 1 + 0) = off + i; omega]
  exact h5 i z hz
/-- a row of ints -/
abbrev iRow (v : Value) (l : List Int) : Row := tRow kInts v (il l)
theorem iRow_owns {w : World} {lo : Nat} {v : Value} {l : List Int} : (iRow v l).At w lo ↔ w.ownsRow lo 3 1 v l.length (l.map (Value.int .i64)) := by
  unfold Row.At iRow tRow
  rw [il_length, il_flat]
  exact Iff.rfl
theorem iRow_il {w : World} {lo : Nat} {v : Value} {l : List Int} (h : (iRow v l).At w lo) (hl : l.length ≤ 9223372036854775807) : IL w v l := by
  have h' := iRow_owns.1 h
  rcases h'.2 with ⟨rfl, h0⟩ | ⟨g, cap, cur, rfl, hlo, hg, _⟩
  · obtain rfl := List.eq_nil_of_length_eq_zero h0
    exact IL.nil w
  · refine ⟨_, cap, rfl, (fun e => by cases e), hl, fun _ => ⟨g, 0, rfl, lt_of_block hg, fun i x hi => ?_⟩⟩
    rw [Nat.zero_add]
    have := h'.cells (show (Value.slice (some ⟨g, 0, none⟩) l.length cap).ownBlock = some g from rfl) i (.int .i64 x) (by rw [List.getElem?_map, hi]; rfl)
    rwa [Go.WideShapes.add_plain, Nat.zero_add] at this

theorem not_take {l : List Int} {k : Nat} {x y : Int} (h : x ∉ l.take k) (hy : l[k]? = some y) (hne : y ≠ x) : x ∉ l.take (k + 1) := by
  rw [List.take_add_one, hy]
  intro hm
  rcases List.mem_append.1 hm with q | q
  · exact h q
  · simp at q; exact hne q.symm
theorem in_any (w : World) (v : Value) (l : List Int) (x : Int) (h : IL w v l) :
    Calls Try.prog 29 #[v, .int .i64 x] w fun e w' => e = .returned (.bool (decide (x ∈ l))) ∧ w = w' := by
  obtain ⟨d, hd⟩ : ∃ d, d = decide (x ∈ l) := ⟨_, rfl⟩
  rw [← hd]
  obtain ⟨a, c, rfl, _, hl, hc⟩ := h
  have HD := Lib.hid hd
  clear hd
  go_enter Try.func29, Try.ntmps29
  go_wp2
  go_loop [5] (fun i => ∃ k : Nat, k ≤ l.length ∧ i = .int .i64 k ∧ Hid (x ∉ l.take k)) (fun i => l.length - (RowKit.intOf i).toNat)
  case atStart => exact ⟨0, Nat.zero_le _, rfl, by show x ∉ l.take 0; simp⟩
  case round =>
    obtain ⟨k, hk, rfl, hN⟩ := hrel
    by_cases hlt : k < l.length
    · obtain ⟨b, off, rfl, hb, hcc⟩ := hc (by omega)
      obtain ⟨y, hy⟩ : ∃ y, l[k]? = some y := ⟨_, List.getElem?_eq_getElem hlt⟩
      have hcell := hcc k y hy
      have HY := Lib.hid hy
      have kk : (k : Int) < (l.length : Int) := by omega
      have kk0 : (0 : Int) ≤ (k : Int) := by omega
      clear hcc hc hy
      by_cases e : y = x
      · have he : (y == x) = true := beq_iff_eq.2 e
        have hdt : Hid (d = true) := HD.out.trans (decide_eq_true (e ▸ List.mem_of_getElem? HY.out))
        clear e
        go_wp2
        go_ret
        exact ⟨by rw [hdt.out]; rfl, rfl⟩
      · have he : (y == x) = false := beq_eq_false_iff_ne.2 e
        have hN2 : Hid (x ∉ l.take (k + 1)) := not_take hN.out HY.out e
        clear e
        go_wp2
        go_round
        case rel => exact ⟨k + 1, by omega, by go_num, hN2⟩
        case measure => simp [RowKit.intOf]; omega
    · have hdf : Hid (d = false) := HD.out.trans (decide_eq_false (by have := hN.out; rwa [List.take_of_length_le (by omega)] at this))
      clear hc hN
      go_wp2
      go_ret
      exact ⟨by rw [hdf.out]; rfl, rfl⟩

/-- without an id -/
def dropS (l : List Int) (x : Int) : List Int := l.filter fun y => y != x
theorem dropS_next {l : List Int} {k : Nat} {x y : Int} (hy : l[k]? = some y) : dropS (l.take (k + 1)) x = dropS (l.take k) x ++ if y = x then [] else [y] := by
  unfold dropS
  rw [List.take_add_one, hy, List.filter_append]
  by_cases e : y = x <;> simp [e]
theorem infoI7 : (Try.prog.info? 3).map (fun i => (i.zero, i.size, i.bytes)) = some (some (.int .i64 0), 1, 8) := by kernel_rfl
set_option maxRecDepth 100000 in
theorem drop_any (w : World) (v : Value) (l : List Int) (x : Int) (h : IL w v l) (hl : l.length ≤ 1000000) :
    Calls Try.prog 35 #[v, .int .i64 x] w fun e w' => ∃ u, e = .returned u ∧ (iRow u (dropS l x)).At w' w.heap.size ∧ Below w.heap.size w w' := by
  obtain ⟨i0, hi0, hz0, hz1, hz2⟩ := info_parts infoI7
  obtain ⟨a, c, rfl, hno, _, hc⟩ := h
  have HC := Lib.hid (show ∀ W, Below w.heap.size w W → ∀ b off, a = some ⟨b, off, none⟩ → ∀ k y, l[k]? = some y → W.cell? ⟨b, off + k, none⟩ = some (.int .i64 y) from fun W hW b off ha k y hy => by
    obtain ⟨b', off', e, hb, hcc⟩ := hc (by have := (List.getElem?_eq_some_iff.1 hy).1; omega)
    rw [ha] at e
    obtain ⟨rfl, rfl⟩ : b = b' ∧ off = off' := by simpa using e
    rw [hW.cell (p := ⟨b, off + k, none⟩) hb]
    exact hcc k y hy)
  have hsome : 0 < l.length → ∃ b off, a = some ⟨b, off, none⟩ := fun h0 => by
    obtain ⟨b, off, e, _⟩ := hc h0
    exact ⟨b, off, e⟩
  clear hc
  go_enter Try.func35, Try.ntmps35
  go_wp2
  go_loopw [5, 6] (fun vo vi wr => ∃ k : Nat, k ≤ l.length ∧ vi = .int .i64 k ∧ Hid (wr.ownsRow w.heap.size 3 1 vo (dropS (l.take k) x).length ((dropS (l.take k) x).map (Value.int .i64))) ∧ Hid (Below w.heap.size w wr)) (fun _ vi _ => l.length - (RowKit.intOf vi).toNat)
  case atStart => exact ⟨0, Nat.zero_le _, rfl, World.ownsRow_nil _ _ _ _, Below.refl _ _⟩
  case round =>
    obtain ⟨k, hk, rfl, HO, HB⟩ := hrel
    by_cases hlt : k < l.length
    · obtain ⟨b, off, rfl⟩ := hsome (by omega)
      obtain ⟨y, hy⟩ : ∃ y, l[k]? = some y := ⟨_, List.getElem?_eq_getElem hlt⟩
      have hcell := HC.out wr HB.out b off rfl k y hy
      have hN := Lib.hid (dropS_next (x := x) hy)
      have hdl : (dropS (l.take k) x).length ≤ 1000000 := by
        have h1 := List.length_filter_le (fun y => y != x) (l.take k)
        rw [List.length_take] at h1
        unfold dropS
        omega
      have kk : (k : Int) < (l.length : Int) := by omega
      have kk0 : (0 : Int) ≤ (k : Int) := by omega
      clear hy hsome
      obtain ⟨m, hm⟩ : ∃ m, m = dropS (l.take k) x := ⟨_, rfl⟩
      rw [← hm] at HO hdl hN
      have hsz := HB.out.size
      clear hm
      by_cases e : y = x
      · have he : (y != x) = false := by simp [e]
        have hN2 : Hid (dropS (l.take (k + 1)) x = m) := by show _ = _; rw [hN.out, if_pos e, List.append_nil]
        clear e hN
        go_wp2
        go_roundw
        case rel => exact ⟨k + 1, by omega, by go_num, by rw [hN2.out]; exact HO, HB⟩
        case measure => simp [RowKit.intOf]; omega
      · have he : (y != x) = true := bne_iff_ne.2 e
        have hN2 : Hid (dropS (l.take (k + 1)) x = m ++ [y]) := by show _ = _; rw [hN.out, if_neg e]
        clear e hN
        go_wp2_with (at_builtin; refine wpList_append_own _ rfl _ _ 22 rfl w.heap.size 3 i0 (.int .i64 0) 1 8 Try.underlying22 hi0 hz0 hz1 hz2 rfl (by decide) _ _ _ rfl (HO.out.alloc _) ⟨wr.heap.size, 0, none⟩ 1 1 [.int .i64 y] rfl rfl ?c1 ?c2 ?c3 ?c4 ?c5 ?_)
        case c1 => exact cells_new _ [.int .i64 y] _
        case c2 => intro u hu; simp at hu; subst hu; rfl
        case c3 => unfold maxLen; omega
        case c4 => omega
        case c5 => simp; omega
        intro v' w2 hown' hgrow _
        have hb2 := Lib.hid (show Below w.heap.size w w2 from (HB.out.alloc HB.out.size _).grown hgrow (by simp; omega) (fun z hz => (HO.out.lt z hz).1))
        have hO2 := Lib.hid (show w2.ownsRow w.heap.size 3 1 v' (dropS (l.take (k + 1)) x).length ((dropS (l.take (k + 1)) x).map (Value.int .i64)) from by
          rw [hN2.out, List.length_append, List.map_append]; exact hown')
        clear hown' hgrow HO hcell
        go_wp2
        go_roundw
        case rel => exact ⟨k + 1, by omega, by go_num, hO2, hb2⟩
        case measure => simp [RowKit.intOf]; omega
    · obtain rfl : k = l.length := by omega
      have hO : Hid (wr.ownsRow w.heap.size 3 1 u5 (dropS l x).length ((dropS l x).map (Value.int .i64))) := by
        have h9 := HO.out
        rw [List.take_length] at h9
        exact h9
      clear HO hsome
      go_wp2
      go_ret
      exact ⟨_, rfl, iRow_owns.2 hO.out, HB.out⟩

end Go.Proofs.Ytoiaamijjcjjiaa.P7
