/-
  FreeRuns: what the walk has between its calls.
-/
import Derived.Test.YtoiaamijjcjjiaaG15
namespace Go.Proofs.Ytoiaamijjcjjiaa.P7
open Go Go.RowKit Go.Lib Go.Proofs.Ytoiaamijjcjjiaa.PK

def g0 (p : Int) (L : List Int) : FM := ⟨.slice none 0 0, .slice none 0 0, p, L, []⟩
def seqA (a : Int) (k : Nat) : List Int := (List.range k).map fun (i : Nat) => a + (i : Int)
theorem seqA_len (a : Int) (k : Nat) : (seqA a k).length = k := by simp [seqA]
theorem seqA_next (a : Int) (k : Nat) : seqA a (k + 1) = seqA a k ++ [a + (k : Int)] := by unfold seqA; rw [List.range_succ, List.map_append]; rfl
theorem seqA_mem {a x : Int} {k : Nat} : x ∈ seqA a k ↔ ∃ i : Nat, i < k ∧ x = a + (i : Int) := by
  unfold seqA
  rw [List.mem_map]
  constructor
  · rintro ⟨i, hi, rfl⟩
    exact ⟨i, List.mem_range.1 hi, rfl⟩
  · rintro ⟨i, hi, rfl⟩
    exact ⟨i, List.mem_range.2 hi, rfl⟩
theorem seqA_nodup (a : Int) (k : Nat) : (seqA a k).Nodup := by
  unfold seqA
  rw [List.nodup_iff_pairwise_ne, List.pairwise_map]
  exact List.Pairwise.imp (fun {x y} h => by omega) List.nodup_range
/-- what was taken -/
structure RF (p : Int) (L : List Int) (m : Nat) (F1 : FM) (a : Int) : Prop where
  fine : Fine F1
  W : F1.W = []
  not : ∀ i : Nat, i < m → a + (i : Int) ∉ F1.L
  lt : ∀ i : Nat, i < m → a + (i : Int) < F1.pages
  ge : 2 ≤ a
  inn : a < p → ∀ i : Nat, i < m → a + (i : Int) ∈ L
theorem rf_of {p : Int} {L : List Int} {m : Nat} (hr : Rises p L) (h1 : 1 ≤ m) (h2 : m ≤ 20) :
    (∃ F1 a, (g0 p L).take m = (F1, a, 0) ∧ RF p L m F1 a) ∨ (4000 < p + (m : Int) ∧ (g0 p L).take m = (g0 p L, 0, 20)) := by
  have hF : Fine (g0 p L) := load_fine hr _ _
  have hFt := hF.take (m : Int)
  cases hh : (g0 p L).hit m with
  | some a =>
    left
    have e := FM.take_hit h1 h2 hh
    obtain ⟨_, ha⟩ := hit_run hh
    rw [e] at hFt
    refine ⟨_, a, e, hFt, rfl, fun i hi hm => ?_, fun i hi => (hr.2.2.2 _ (ha i hi)).2, ?_, fun _ i hi => ha i hi⟩
    · have hm' : a + (i : Int) ∈ dropN L a m := hm
      have := (dropN_mem.1 hm').2
      omega
    · have := hr.2.2.2 _ (ha 0 h1)
      omega
  | none =>
    by_cases hp : 4000 < p + (m : Int)
    · exact .inr ⟨hp, FM.take_full h1 h2 hh hp⟩
    · left
      have e := FM.take_grow h1 h2 hh hp
      rw [e] at hFt
      refine ⟨_, p, e, hFt, rfl, fun i hi hm => ?_, fun i hi => ?_, hr.1, fun q => absurd q (Int.lt_irrefl _)⟩
      · have := (hr.2.2.2 _ hm).2
        omega
      · show p + (i : Int) < p + (m : Int)
        omega
def r2F (F1 : FM) (tx a : Int) (m : Nat) : FM := { F1 with W := F1.give tx (seqA a m) }
def r3F (F1 : FM) (tx a : Int) (m : Nat) : FM := { r2F F1 tx a m with L := (r2F F1 tx a m).relL tx, W := relW tx (r2F F1 tx a m).W }
def r4F (F1 : FM) (tx a : Int) (m : Nat) : FM := { r3F F1 tx a m with L := (r3F F1 tx a m).relL (tx + 1), W := relW (tx + 1) (r3F F1 tx a m).W }
section
variable {p tx a : Int} {L : List Int} {m : Nat} {F1 : FM}
theorem r2_W (h : RF p L m F1 a) : (r2F F1 tx a m).W = (seqA a m).map fun x => (tx, x) := by
  show F1.give tx (seqA a m) = _
  unfold FM.give
  rw [h.W, give_all tx (seqA a m) [] (seqA_nodup a m) (fun x hx => ?_), List.nil_append]
  obtain ⟨i, hi, rfl⟩ := seqA_mem.1 hx
  have := h.ge
  exact ⟨by omega, h.lt i hi, h.not i hi, fun q hq => by cases hq⟩
theorem r2_len (h : RF p L m F1 a) : (r2F F1 tx a m).W.length = m := by rw [r2_W h, List.length_map, seqA_len]
theorem r2_fine (h : RF p L m F1 a) : Fine (r2F F1 tx a m) := Fine.give tx _ _ (show Fine { F1 with W := F1.W } from h.fine)
theorem r2_tx (h : RF p L m F1 a) : ∀ q ∈ (r2F F1 tx a m).W, q.1 = tx := fun q hq => by
  rw [r2_W h] at hq
  obtain ⟨x, _, rfl⟩ := List.mem_map.1 hq
  rfl
theorem r2_pend (h : RF p L m F1 a) : ((r2F F1 tx a m).pend tx).length = m := by
  rw [(r2_fine h).pend_len, List.filter_eq_self.2 (fun q hq => by simp [r2_tx h q hq]), r2_len h]
theorem r2_rel0 (h : RF p L m F1 a) : relN tx (r2F F1 tx a m).W = 0 := by
  unfold relN
  rw [List.filter_eq_nil_iff.2 (fun q hq => by have := r2_tx h q hq; simp; omega)]
  rfl
theorem r3_W (h : RF p L m F1 a) : (r3F F1 tx a m).W = (r2F F1 tx a m).W := by
  show relW tx (r2F F1 tx a m).W = _
  unfold relW
  exact List.filter_eq_self.2 (fun q hq => by have := r2_tx h q hq; simp; omega)
theorem r3_rel (h : RF p L m F1 a) : relN (tx + 1) (r3F F1 tx a m).W = m := by
  rw [r3_W h]
  unfold relN
  rw [List.filter_eq_self.2 (fun q hq => by have := r2_tx h q hq; simp; omega), r2_len h]
theorem r3_fine (h : RF p L m F1 a) : Fine (r3F F1 tx a m) := (r2_fine h).rel tx
theorem r4_fine (h : RF p L m F1 a) : Fine (r4F F1 tx a m) := (r3_fine h).rel (tx + 1)
theorem r4_take (h : RF p L m F1 a) (h1 : 1 ≤ m) (h2 : m ≤ 20) : ∃ F5 b, (r4F F1 tx a m).take m = (F5, b, 0) ∧ b ≤ a := by
  have ha : allIn (r4F F1 tx a m).L a m := fun j hj => by
    show a + (j : Int) ∈ (r3F F1 tx a m).relL (tx + 1)
    rw [relL_mem]
    refine .inr ⟨(tx, a + (j : Int)), ?_, by show tx < tx + 1; omega, rfl⟩
    rw [r3_W h, r2_W h]
    exact List.mem_map_of_mem (seqA_mem.2 ⟨j, hj, rfl⟩)
  obtain ⟨b, hb, hle⟩ := hit_least (r4_fine h).rise (by have := ha 0 h1; simpa using this) ha
  exact ⟨_, b, FM.take_hit h1 h2 hb, hle⟩
theorem r1_all (h : RF p L m F1 a) (i : Nat) (hi : i < m) : a + (i : Int) ∉ F1.all := fun q => by
  rcases all_mem.1 q with q | ⟨x, hx, _⟩
  · exact h.not i hi q
  · rw [h.W] at hx; cases hx
variable {w w1 w2 wA : World} {r : Nat} {R : List Row}
/-- a row beside it has grown -/
theorem QF.grow {F : FM} {v v' : Value} {l : List Int} {x : Int} (h : QF w (iRow v l :: R) r F w1) (hb : Below w1.heap.size w1 wA) (hO : w2.ownsRow w.heap.size 3 1 v' (l.length + 1) (l.map (Value.int .i64) ++ [.int .i64 x])) (hg : wA.grownBy w2 v.ownBlock)
    (hf : v'.ownBlock = v.ownBlock ∨ v'.ownBlock = some wA.heap.size) : QF w (iRow v' (l ++ [x]) :: R) r F w2 := by
  obtain ⟨P, h1, h2⟩ := h
  refine ⟨P, ⟨?_, h1.few, h1.two⟩, h2⟩
  have h3 := (h1.rows.over hb).grown (l1 := P.rows r) (x := iRow v l) (v' := v') (n' := l.length + 1) (xs' := l.map (Value.int .i64) ++ [.int .i64 x]) hg (by
    show w2.ownsRow w.heap.size 3 1 v' (l.length + 1) _
    exact hO) (hf.imp id fun q g hg => by rw [q] at hg; cases hg; exact Nat.le_refl _)
  have e : (⟨v', (iRow v l).e, (iRow v l).size, l.length + 1, l.map (Value.int .i64) ++ [.int .i64 x]⟩ : Row) = iRow v' (l ++ [x]) := by
    unfold iRow tRow
    simp only [il_length, il_flat, List.length_append, List.map_append]
    rfl
  rw [e] at h3
  exact h3
theorem ra_load (w : World) (v : Value) (hi : IL w v L) (hr : Rises p L) : Calls Try.prog 9 #[.int .i64 p, v] w fun e w' => ∃ r, e = .returned (.tuple #[.pointer (some ⟨r, 0, none⟩), .int .i64 0]) ∧ QF w [] r (g0 p L) w' := load_q w p v L hi hr
theorem ra_take (h : QF w [] r (g0 p L) w1) (e0 : (g0 p L).take m = (F1, a, 0)) : Calls Try.prog 13 #[.pointer (some ⟨r, 0, none⟩), .int .i64 m] w1 fun e w' => e = .returned (.tuple #[.int .i64 a, .int .i64 0]) ∧ QF w [] r F1 w' := by
  have h9 := h.take m
  rw [e0] at h9
  exact h9
theorem ra_full (h : QF w [] r (g0 p L) w1) (e0 : (g0 p L).take m = (g0 p L, 0, 20)) : Calls Try.prog 13 #[.pointer (some ⟨r, 0, none⟩), .int .i64 m] w1 fun e w' => e = .returned (.tuple #[.int .i64 0, .int .i64 20]) ∧ QF w [] r (g0 p L) w' := by
  have h9 := h.take m
  rw [e0] at h9
  exact h9
theorem ra_row (h : QF w [] r F1 w1) : QF w [iRow (.slice none 0 0) []] r F1 w1 := h.with_ (Below.refl _ _) (World.ownsRow_nil _ _ _ _)
theorem ra_all (h : QF w R r F1 w1) (hf : RF p L m F1 a) (i : Nat) (hi : i < m) : Calls Try.prog 22 #[.pointer (some ⟨r, 0, none⟩)] w1 fun e w' => ∃ u, e = .returned u ∧ QF w R r F1 w' ∧ Calls Try.prog 29 #[u, .int .i64 (a + (i : Int))] w' fun e w2 => e = .returned (.bool false) ∧ w' = w2 := by
  refine (h.all_).mono ?_
  rintro e w' ⟨u, rfl, hu, hb⟩
  refine ⟨u, rfl, h.over hb, ?_⟩
  have h0 := hf.fine.all_len
  have h1 := fine_len hf.fine
  have h2 := in_any w' u _ (a + (i : Int)) (iRow_il hu (by omega))
  rw [decide_eq_false (r1_all hf i hi)] at h2
  exact h2
theorem ra_in (v : Value) (hi : IL w v L) (h : QF w R r F1 w1) (hf : RF p L m F1 a) (hap : a < p) (i : Nat) (him : i < m) : Calls Try.prog 29 #[v, .int .i64 (a + (i : Int))] w1 fun e w2 => e = .returned (.bool true) ∧ w1 = w2 := by
  have h2 := in_any w1 v L (a + (i : Int)) (hi.below h.below)
  rw [decide_eq_true (hf.inn hap i him)] at h2
  exact h2
theorem ra_give {v : Value} (h : QF w [iRow v (seqA a m)] r F1 w1) (hf : RF p L m F1 a) (hm : m ≤ 20) : Calls Try.prog 15 #[.pointer (some ⟨r, 0, none⟩), .int .i64 tx, v] w1 fun e w' => e = .returned (.int .i64 (m : Nat)) ∧ QF w [iRow v (seqA a m)] r (r2F F1 tx a m) w' := by
  refine (h.give tx v (seqA a m) (fun W hW _ => iRow_il (hW _ (by simp)) (by rw [seqA_len]; omega)) (by rw [seqA_len]; omega)).mono ?_
  rintro e w' ⟨rfl, q⟩
  have e1 : (F1.give tx (seqA a m)).length = m := r2_len hf
  exact ⟨congrArg (fun z => Ending.returned (Value.int .i64 z)) (show (((F1.give tx (seqA a m)).length : Int) - (F1.W.length : Int)) = (m : Int) by rw [e1, hf.W]; show (m : Int) - ((0 : Nat) : Int) = _; omega), q⟩
theorem ra_pend (h : QF w R r (r2F F1 tx a m) w1) (hf : RF p L m F1 a) : Calls Try.prog 21 #[.pointer (some ⟨r, 0, none⟩), .int .i64 tx] w1 fun e w' => ∃ a' c, e = .returned (.slice a' m c) ∧ QF w R r (r2F F1 tx a m) w' := by
  refine (h.pend_ tx).mono ?_
  rintro e w' ⟨u, rfl, hu, hb⟩
  obtain ⟨a', c, rfl⟩ := iRow_slice hu
  rw [r2_pend hf]
  exact ⟨a', c, rfl, h.over hb⟩
theorem ra_rel0 (h : QF w R r (r2F F1 tx a m) w1) (hf : RF p L m F1 a) : Calls Try.prog 17 #[.pointer (some ⟨r, 0, none⟩), .int .i64 tx] w1 fun e w' => e = .returned (.int .i64 0) ∧ QF w R r (r3F F1 tx a m) w' := by
  have h9 := h.rel tx
  rw [r2_rel0 hf] at h9
  exact h9
theorem ra_rel (h : QF w R r (r3F F1 tx a m) w1) (hf : RF p L m F1 a) : Calls Try.prog 17 #[.pointer (some ⟨r, 0, none⟩), .int .i64 (tx + 1)] w1 fun e w' => e = .returned (.int .i64 (m : Nat)) ∧ QF w R r (r4F F1 tx a m) w' := by
  have h9 := h.rel (tx + 1)
  rw [r3_rel hf] at h9
  exact h9
theorem ra_again (h : QF w R r (r4F F1 tx a m) w1) (hf : RF p L m F1 a) (h1 : 1 ≤ m) (h2 : m ≤ 20) : ∃ b, b ≤ a ∧ Calls Try.prog 13 #[.pointer (some ⟨r, 0, none⟩), .int .i64 m] w1 fun e w' => e = .returned (.tuple #[.int .i64 b, .int .i64 0]) ∧ Below w.heap.size w w' := by
  obtain ⟨F5, b, e0, hb⟩ := r4_take (tx := tx) hf h1 h2
  have h9 := h.take m
  rw [e0] at h9
  exact ⟨b, hb, h9.mono fun e w' ⟨q1, q2⟩ => ⟨q1, q2.below⟩⟩
end

end Go.Proofs.Ytoiaamijjcjjiaa.P7
