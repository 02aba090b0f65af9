/-
  The program's list of free ids: Load. (For any seat that has free.List.)
-/
import Derived.Test.YtoiaamijjcjjiaaG10
namespace Go.Proofs.Ytoiaamijjcjjiaa.P7
open Go Go.RowKit Go.Lib Go.Proofs.Ytoiaamijjcjjiaa.PK

/-- these may be free in a file of so many pages -/
def Rises (p : Int) (ids : List Int) : Prop := 2 ≤ p ∧ p ≤ 4000 ∧ Rising ids ∧ ∀ x ∈ ids, 2 ≤ x ∧ x < p
def loadS (ids : List Int) : List Sp := ids.map fun x => ⟨x, true, 0⟩
theorem loadS_ids (ids : List Int) : idsS (loadS ids) = ids := by unfold idsS loadS; rw [List.map_map]; exact List.map_id' _
theorem loadS_len (ids : List Int) : (loadS ids).length = ids.length := by simp [loadS]
theorem loadS_next {ids : List Int} {k : Nat} {x : Int} (hx : ids[k]? = some x) : loadS (ids.take (k + 1)) = loadS (ids.take k) ++ [⟨x, true, 0⟩] := by
  unfold loadS
  rw [List.take_add_one, hx, List.map_append]
  rfl
theorem load_tie {p : Int} {ids : List Int} (h : Rises p ids) : Tie (loadS ids) ⟨.slice none 0 0, .slice none 0 0, p, ids, []⟩ := by
  refine ⟨by rw [loadS_ids]; exact h.2.2.1, fun x => ?_, fun t x => ?_⟩
  · show x ∈ ids ↔ _
    unfold loadS
    constructor
    · intro hx
      exact ⟨_, List.mem_map_of_mem hx, rfl, rfl⟩
    · rintro ⟨s, hs, _, rfl⟩
      obtain ⟨y, hy, rfl⟩ := List.mem_map.1 hs
      exact hy
  · show (t, x) ∈ [] ↔ _
    constructor
    · intro q; cases q
    · rintro ⟨s, hs, hf, _⟩
      obtain ⟨y, _, rfl⟩ := List.mem_map.1 hs
      cases hf
theorem load_fine {p : Int} {ids : List Int} (h : Rises p ids) (u v : Value) : Fine ⟨u, v, p, ids, []⟩ :=
  ⟨h.2.2.1, h.2.2.2, fun _ q => (by cases q), List.nodup_nil, fun _ q => (by cases q), h.1, h.2.1⟩
theorem new_tie (p : Int) : Tie [] ⟨.slice none 0 0, .slice none 0 0, p, [], []⟩ :=
  ⟨List.Pairwise.nil, fun x => ⟨fun q => (by cases q), fun ⟨s, hs, _⟩ => (by cases hs)⟩, fun t x => ⟨fun q => (by cases q), fun ⟨s, hs, _⟩ => (by cases hs)⟩⟩
/-- the ids that were looked at -/
structure LoadI (p : Int) (ids : List Int) (le : Int) : Prop where
  lt : ∀ x ∈ ids, x < le
  last : le = 2 ∨ ∃ x ∈ ids, le = x + 1
  rise : Rising ids
  inn : ∀ x ∈ ids, 2 ≤ x ∧ x < p
theorem LoadI.next {p le x : Int} {ids : List Int} {k : Nat} (h : LoadI p (ids.take k) le) (hx : ids[k]? = some x) (h1 : le ≤ x) (h2 : x < p) : LoadI p (ids.take (k + 1)) (x + 1) := by
  have e : ids.take (k + 1) = ids.take k ++ [x] := by rw [List.take_add_one, hx]; rfl
  have hle : 2 ≤ le := by
    rcases h.last with q | ⟨y, hy, q⟩
    · omega
    · have := (h.inn y hy).1; omega
  rw [e]
  refine ⟨fun y hy => ?_, .inr ⟨x, by simp, rfl⟩, ?_, fun y hy => ?_⟩
  · rcases List.mem_append.1 hy with q | q
    · have := h.lt y q; omega
    · rw [List.mem_singleton.1 q]; omega
  · show List.Pairwise _ _
    rw [List.pairwise_append]
    refine ⟨h.rise, List.pairwise_singleton _ _, fun a ha b hb => ?_⟩
    rw [List.mem_singleton.1 hb]
    have := h.lt a ha
    omega
  · rcases List.mem_append.1 hy with q | q
    · exact h.inn y q
    · rw [List.mem_singleton.1 q]; omega
theorem LoadI.bad {p le x : Int} {ids : List Int} {k : Nat} (h : LoadI p (ids.take k) le) (hx : ids[k]? = some x) (hb : x < le ∨ p ≤ x) : ¬ Rises p ids := fun q => by
  have hm := q.2.2.2 x (List.mem_of_getElem? hx)
  rcases hb with hb | hb
  · rcases h.last with e | ⟨y, hy, e⟩
    · omega
    · obtain ⟨j, hj⟩ := List.getElem?_of_mem hy
      have hjk := (List.getElem?_eq_some_iff.1 hj).1
      rw [List.length_take] at hjk
      rw [List.getElem?_take_of_lt (by omega)] at hj
      obtain ⟨p0, q0⟩ := List.getElem?_eq_some_iff.1 hj
      obtain ⟨p1, q1⟩ := List.getElem?_eq_some_iff.1 hx
      have := List.pairwise_iff_getElem.1 q.2.2.1 j k p0 p1 (by omega)
      rw [q0, q1] at this
      omega
  · omega
section
variable {w0 w w1 w2 w' : World} {R : List Row} {r : Nat} {P : PM}
/-- one more page behind all others -/
theorem PAt.app {v' : Value} {x : Sp} {wA : World} (h : PAt w0 R r P w) (hb : Below w.heap.size w wA) (hO : w2.ownsRow w0.heap.size 70 3 v' (P.S.length + 1) (spFlat P.S ++ spCells x)) (hg : wA.grownBy w2 P.sv.ownBlock)
    (hf : v'.ownBlock = P.sv.ownBlock ∨ v'.ownBlock = some wA.heap.size) (hl : P.S.length + 1 ≤ 10000) :
    w2.cell? ⟨r, 1, none⟩ = some P.sv ∧ w2.frozen? ⟨r, 1, none⟩ = false ∧ PAt w0 R r { P with sv := v', S := P.S ++ [x] } (w2.setCell ⟨r, 1, none⟩ v') := by
  have hA := h.over hb
  refine hA.setS (S' := P.S ++ [x]) hg ?_ (hf.imp id fun q g hg => by rw [q] at hg; cases hg; exact Nat.le_refl _) (by rw [List.length_append]; exact hl)
  show w2.ownsRow w0.heap.size 70 3 v' (P.S ++ [x]).length (spFlat (P.S ++ [x]))
  rw [List.length_append, spFlat_app]
  exact hO
/-- what Load tells: a list, or an error -/
def LoadP (w : World) (p : Int) (ids : List Int) (e : Ending) (w' : World) : Prop :=
  (Rises p ids ∧ ∃ r sv, e = .returned (.tuple #[.pointer (some ⟨r, 0, none⟩), .int .i64 0]) ∧ PAt w [] r ⟨sv, p, loadS ids⟩ w') ∨ (¬ Rises p ids ∧ e = .returned (.tuple #[.pointer none, .int .i64 1]) ∧ Below w.heap.size w w')
set_option maxRecDepth 100000 in
set_option maxHeartbeats 2000000 in
theorem load_in (w : World) (p : Int) (v : Value) (ids : List Int) (hi : IL w v ids) (hp2 : 2 ≤ p) (hp4 : p ≤ 4000) : Calls Try.prog 9 #[.int .i64 p, v] w (LoadP w p ids) := by
  obtain ⟨i0, hi0, hz0, hz1, hz2⟩ := info_parts infoSp
  obtain ⟨z0, hz9⟩ : ∃ z, z = Value.agg #[.int .i64 0, .bool false, .int .i64 0] := ⟨_, rfl⟩
  rw [← hz9] at hz0
  have hzc : z0.cells.size = 3 := by rw [hz9]; exact rfl
  clear hz9
  have d1 : decide (p < 2) = false := decide_eq_false (by omega)
  have d2 : decide (4000 < p) = false := decide_eq_false (by omega)
  have HNw : Hid (Calls Try.prog 12 #[.int .i64 p] w fun e w' => e = .returned (.pointer (some ⟨w.heap.size, 0, none⟩)) ∧ PAt w [] w.heap.size ⟨.slice none 0 0, p, []⟩ w') := (new_ w p).mono fun e w' ⟨h1, h2⟩ => ⟨h1, by
    rw [show min (max p 2) 4000 = p by omega] at h2
    exact ⟨by rw [List.append_nil]; exact h2, Nat.zero_le _, hp2⟩⟩
  obtain ⟨a, c, rfl, hno, hil, hc⟩ := hi
  have HI := Lib.hid (show ∀ W, Below w.heap.size w W → ∀ k x, ids[k]? = some x → ∃ b off, a = some ⟨b, off, none⟩ ∧ W.cell? ⟨b, off + k, none⟩ = some (.int .i64 x) from fun W hW k x hx => by
    obtain ⟨b, off, e, hb, hcc⟩ := hc (by have := (List.getElem?_eq_some_iff.1 hx).1; omega)
    exact ⟨b, off, e, by rw [hW.cell (p := ⟨b, off + k, none⟩) hb]; exact hcc k x hx⟩)
  obtain ⟨m, hm⟩ : ∃ m, m = ids.length := ⟨_, rfl⟩
  have HM := Lib.hid hm
  rw [← hm] at hil ⊢
  clear hc hm hno
  go_enter Try.func9, Try.ntmps9
  go_wp2_with (go_at_call 12; (with_reducible refine HNw.out.mono ?_); rintro e w2 ⟨rfl, hp⟩; have HP := Lib.hid hp; clear hp)
  obtain ⟨r, hr9⟩ : ∃ r, r = w.heap.size := ⟨_, rfl⟩
  rw [← hr9] at HP ⊢
  clear hr9 HNw
  go_loopw [7, 20] (fun vl vi wr => ∃ (k : Nat) (le : Int) (sv : Value), k ≤ m ∧ vi = .int .i64 k ∧ vl = .int .i64 le ∧ 2 ≤ le ∧ le ≤ 4001 ∧ Hid (LoadI p (ids.take k) le) ∧ Hid (PAt w [] r ⟨sv, p, loadS (ids.take k)⟩ wr)) (fun _ vi _ => m - (RowKit.intOf vi).toNat)
  case atStart => exact ⟨0, 2, _, Nat.zero_le _, rfl, rfl, by omega, by omega, ⟨fun _ q => (by cases q), .inl rfl, List.Pairwise.nil, fun _ q => (by cases q)⟩, HP⟩
  case round =>
    clear HP
    obtain ⟨k, le, sv, hk, rfl, rfl, hle, hle2, HL, HP⟩ := hrel
    by_cases hlt : k < m
    · obtain ⟨x, hx⟩ : ∃ x, ids[k]? = some x := ⟨_, List.getElem?_eq_getElem (by have := HM.out; omega)⟩
      obtain ⟨b, off, rfl, x1⟩ := HI.out wr HP.out.rows.below k x hx
      have kk : (k : Int) < (m : Int) := by omega
      have kk0 : (0 : Int) ≤ (k : Int) := by omega
      by_cases b1 : x < le
      · have d3 : decide (x < le) = true := decide_eq_true b1
        have HBad : Hid (LoadP w p ids (.returned (.tuple #[.pointer none, .int .i64 1])) wr) := .inr ⟨HL.out.bad hx (.inl b1), rfl, HP.out.rows.below⟩
        clear hx b1
        go_wp2
        go_ret2
        exact HBad.out
      by_cases b2 : p ≤ x
      · have d3 : decide (x < le) = false := decide_eq_false b1
        have d4 : decide (p ≤ x) = true := decide_eq_true b2
        have HBad : Hid (LoadP w p ids (.returned (.tuple #[.pointer none, .int .i64 1])) wr) := .inr ⟨HL.out.bad hx (.inr b2), rfl, HP.out.rows.below⟩
        clear hx b1 b2
        go_wp2
        go_ret2
        exact HBad.out
      have d3 : decide (x < le) = false := decide_eq_false b1
      have d4 : decide (p ≤ x) = false := decide_eq_false b2
      have HL2 := Lib.hid (HL.out.next hx (by omega) (by omega))
      have HN := Lib.hid (loadS_next hx)
      have hk4 : k ≤ 4000 := by
        have h9 := rise_bound (b := p) (a := 2) (by omega) HL.out.rise HL.out.inn
        rw [List.length_take] at h9
        have := HM.out
        omega
      have hx1 : le ≤ x := by omega
      have hx2 : x < p := by omega
      have hge := b1
      have hrl := HP.out.lo
      have hpb := HP.out.rows.below.size
      obtain ⟨sa, sc, hsv, _, _, _, hX, _⟩ := HP.out.shape
      have y1 := (hX wr HP.out).2
      have hsv' : sv = .slice sa (loadS (ids.take k)).length sc := hsv
      have hlk : (loadS (ids.take k)).length = k := by rw [loadS_len, List.length_take]; have := HM.out; omega
      have HP1 := Lib.hid (fun o => (HP.out.over (below_new wr o)))
      have HO1 : Hid (∀ o, (wr.alloc o).ownsRow w.heap.size 70 3 (.slice sa (loadS (ids.take k)).length sc) k (spFlat (loadS (ids.take k)))) := fun o => by
        have h9 := (HP1.out o).srow
        unfold sRow Row.At at h9
        rw [hlk] at h9
        rw [← hsv']
        exact h9
      have HSV := Lib.hid hsv'
      have HLK := Lib.hid hlk
      rw [hlk] at y1 HO1
      clear hx hge hX hsv hsv' hlk b1 b2
      go_wp2_with (at_builtin; refine wpList_append_own_at _ rfl _ _ 66 rfl w.heap.size 70 i0 z0 3 24 Try.underlying66 hi0 hz0 hz1 hz2 hzc (by decide) _ k (spFlat (loadS (ids.take k))) rfl (HO1.out _) ⟨wr.heap.size, 0, none⟩ 1 1 (spCells ⟨x, true, 0⟩) rfl rfl (cells_new _ (spCells ⟨x, true, 0⟩) _) ?c2 ?c3 ?c4 ?c5 ?_)
      case c2 => exact ⟨rfl, rfl, rfl⟩
      case c3 => unfold maxLen; omega
      case c4 => omega
      case c5 => first | omega | (simp; omega)
      intro v' w3 hown' hgrow _ hat
      obtain ⟨va, vn, vc, rfl⟩ := owns_shape hown'
      obtain ⟨t1, t2, hy⟩ := PAt.app (x := ⟨x, true, 0⟩) HP.out (below_new wr _) (by show World.ownsRow _ _ _ _ _ ((loadS (ids.take k)).length + 1) _; rw [HLK.out]; exact hown') (by show World.grownBy _ _ sv.ownBlock; rw [HSV.out, HLK.out]; exact hgrow) (by show Value.ownBlock _ = sv.ownBlock ∨ Value.ownBlock _ = some _; rw [HSV.out, HLK.out]; simpa using hat) (by show (loadS (ids.take k)).length + 1 ≤ 10000; rw [HLK.out]; omega)
      have HY := Lib.hid hy
      have t1' : w3.cell? ⟨r, 1, none⟩ = some (.slice sa k sc) := by rw [t1]; show some sv = _; rw [HSV.out, HLK.out]
      clear hown' hgrow hat hy t1
      go_wp2
      go_roundw
      case rel => exact ⟨k + 1, x + 1, _, by omega, by go_num, rfl, by omega, by omega, HL2, by rw [HN.out]; exact HY⟩
      case measure => simp [RowKit.intOf]; omega
    · obtain rfl : k = m := by omega
      have HF : Hid (LoadP w p ids (.returned (.tuple #[.pointer (some ⟨r, 0, none⟩), .int .i64 0])) wr) := by
        have h9 := HP.out
        have h8 := HL.out
        rw [List.take_of_length_le (by have := HM.out; omega)] at h9 h8
        exact .inl ⟨⟨hp2, hp4, h8.rise, h8.inn⟩, r, sv, rfl, h9⟩
      clear HP
      go_wp2
      go_ret2
      exact HF.out
theorem load_ (w : World) (p : Int) (v : Value) (ids : List Int) (hi : IL w v ids) : Calls Try.prog 9 #[.int .i64 p, v] w (LoadP w p ids) := by
  by_cases h1 : 2 ≤ p
  · by_cases h2 : p ≤ 4000
    · exact load_in w p v ids hi h1 h2
    · have d1 : decide (p < 2) = false := decide_eq_false (by omega)
      have d2 : decide (4000 < p) = true := decide_eq_true (by omega)
      have HBad : Hid (LoadP w p ids (.returned (.tuple #[.pointer none, .int .i64 1])) w) := .inr ⟨fun q => h2 q.2.1, rfl, Below.refl _ _⟩
      clear hi h2
      go_enter Try.func9, Try.ntmps9
      go_wp2
      go_ret2
      exact HBad.out
  · have d1 : decide (p < 2) = true := decide_eq_true (by omega)
    have HBad : Hid (LoadP w p ids (.returned (.tuple #[.pointer none, .int .i64 1])) w) := .inr ⟨fun q => h1 q.1, rfl, Below.refl _ _⟩
    clear hi h1
    go_enter Try.func9, Try.ntmps9
    go_wp2
    go_ret2
    exact HBad.out
end

end Go.Proofs.Ytoiaamijjcjjiaa.P7
