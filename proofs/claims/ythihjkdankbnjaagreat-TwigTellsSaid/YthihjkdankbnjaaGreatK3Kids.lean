/-
  The book, Kids: its kind; copied, compared, marks.
-/
import Derived.Test.YthihjkdankbnjaaGreatK2
namespace Go.Proofs.YthihjkdankbnjaaGreat.PK
open Go Go.RowKit Go.Lib

/-- the kind -/
def kKids : Kd where
  e := 50
  n := 2
  te := 22
  p := 6
  ok := fun y => ∃ (s : ByteArray) (x : Int), y = [.string s, .int .i64 x]
  mark := fun i k => [.string ⟨#[]⟩, .int .i64 (-1000 * (i : Int) - (k : Int) - 1)]
  len := by rintro _ ⟨s, x, rfl⟩; rfl
  one := by
    rintro _ ⟨s, x, rfl⟩ u hu
    simp only [List.mem_cons, List.not_mem_nil, or_false] at hu
    rcases hu with rfl | rfl <;> rfl
  mok := fun i k => ⟨_, _, rfl⟩
  pos := by decide
theorem infoEKids : (Tryz.prog.info? 50).map (fun i => (i.zero, i.size, i.bytes)) = some (some (Value.agg #[.string ⟨#[]⟩, .int .i64 0]), 2, 24) := by kernel_rfl
theorem infoSKids : (Tryz.prog.info? 22).map (fun i => (i.zero, i.size, i.bytes)) = some (some (.slice none 0 0), 1, 24) := by kernel_rfl
set_option maxRecDepth 100000 in
theorem sameKids_same (w : World) (u v : Value) (l : List (List Value)) (h1 : ElemsIn kKids w u l) (h2 : ElemsIn kKids w v l) :
    Calls Tryz.prog 12 #[u, v] w fun e w' => e = .returned (.bool true) ∧ Below w.heap.size w w' := by
  obtain ⟨a, c, rfl, _, hl, hok, hc⟩ := h1
  obtain ⟨a2, c2, rfl, _, _, _, hc2⟩ := h2
  go_enter Tryz.func12, Tryz.ntmps12
  go_wp2
  go_loopw [5] (fun i wr => ∃ k q : Nat, k ≤ l.length ∧ i = .int .i64 k ∧ wr = w.drewN q) (fun i _ => l.length - (RowKit.intOf i).toNat)
  case atStart => exact ⟨0, 0, Nat.zero_le _, rfl, rfl⟩
  case round =>
    obtain ⟨k, q, hk, rfl, rfl⟩ := hrel
    by_cases hlt : k < l.length
    · obtain ⟨b, off, rfl, hb, hcc⟩ := hc (by omega)
      obtain ⟨b2, off2, rfl, hb2, hcc2⟩ := hc2 (by omega)
      obtain ⟨y, hy⟩ : ∃ y, l[k]? = some y := ⟨_, List.getElem?_eq_getElem hlt⟩
      obtain ⟨s, x, rfl⟩ := hok y (List.mem_of_getElem? hy)
      have c0 : w.cell? ⟨b, off + k * 2, none⟩ = some (.string s) := by
        have h9 := hcc k _ hy 0 _ rfl
        rwa [show off + (k * kKids.n + 0) = off + k * 2 by show off + (k * 2 + 0) = off + k * 2; omega] at h9
      have d0 : w.cell? ⟨b2, off2 + k * 2, none⟩ = some (.string s) := by
        have h9 := hcc2 k _ hy 0 _ rfl
        rwa [show off2 + (k * kKids.n + 0) = off2 + k * 2 by show off2 + (k * 2 + 0) = off2 + k * 2; omega] at h9
      have c1 : w.cell? ⟨b, off + k * 2 + 1, none⟩ = some (.int .i64 x) := by
        have h9 := hcc k _ hy 1 _ rfl
        rwa [show off + (k * kKids.n + 1) = off + k * 2 + 1 by show off + (k * 2 + 1) = off + k * 2 + 1; omega] at h9
      have d1 : w.cell? ⟨b2, off2 + k * 2 + 1, none⟩ = some (.int .i64 x) := by
        have h9 := hcc2 k _ hy 1 _ rfl
        rwa [show off2 + (k * kKids.n + 1) = off2 + k * 2 + 1 by show off2 + (k * 2 + 1) = off2 + k * 2 + 1; omega] at h9
      have kk : (k : Int) < (l.length : Int) := by omega
      have kk0 : (0 : Int) ≤ (k : Int) := by omega
      have e0 : (s.toList == s.toList) = true := beq_self_eq_true _
      have e1 : (x == x) = true := beq_self_eq_true _
      clear hcc hcc2 hc hc2 hy hok
      go_wp2
      go_quiet (fail)
      go_wp2
      go_roundw
      case rel => exact ⟨k + 1, _, by omega, by go_num, rfl⟩
      case measure => simp [RowKit.intOf]; omega
    · clear hc hc2 hok
      go_wp2
      go_ret
      exact ⟨rfl, ⟨rfl, rfl, rfl, Nat.le_refl _, fun _ _ => rfl⟩⟩
set_option maxHeartbeats 1000000 in
theorem markKids_any (w : World) (i f m : Nat) (hi : i ≤ 500000) (hf : f ≤ 500000) (hm : m ≤ 400000) :
    Calls Tryz.prog 102 #[.int .i64 i, .int .i64 f, .int .i64 m] w fun e w' => ∃ u, e = .returned u ∧ w'.ownsRow w.heap.size 50 2 u m (marksL kKids i f m).flatten ∧ Below w.heap.size w w' := by
  obtain ⟨i0, hi0, hz0, hz1, hz2⟩ := info_parts infoEKids
  go_enter Tryz.func102, Tryz.ntmps102
  go_wp2
  go_loopw [7, 8] (fun v vk wr => ∃ q : Nat, q ≤ m ∧ vk = .int .i64 ((f + q : Nat) : Int) ∧ wr.ownsRow w.heap.size 50 2 v q (marksL kKids i f q).flatten ∧ Below w.heap.size w wr) (fun _ vk _ => f + m - (RowKit.intOf vk).toNat)
  case atStart => exact ⟨0, Nat.zero_le _, by simp, World.ownsRow_nil _ _ _ _, Below.refl _ _⟩
  case round =>
    obtain ⟨q, hq, rfl, hown, hbel⟩ := hrel
    obtain ⟨p, hp⟩ : ∃ p : Nat, p = f + q := ⟨_, rfl⟩
    rw [← hp]
    by_cases hqn : q < m
    · have b1 : decide ((p : Int) < (f : Int) + (m : Int)) = true := decide_eq_true (by omega)
      have pb : p ≤ 1000000 := by omega
      have hP := Lib.hid hp
      clear hp
      go_wp2_with (at_builtin; refine wpList_append_own _ rfl _ _ 22 rfl w.heap.size 50 i0 (Value.agg #[.string ⟨#[]⟩, .int .i64 0]) 2 24 Tryz.underlying22 hi0 hz0 hz1 hz2 rfl (by decide) _ _ _ rfl (hown.alloc _) ⟨wr.heap.size, 0, none⟩ 1 1 [.string ⟨#[]⟩, .int .i64 (-1000 * (i : Int) - (p : Int) - 1)] rfl rfl ?c1 ?c2 ?c3 ?c4 ?c5 ?_)
      case c1 => exact cells_new _ [.string ⟨#[]⟩, .int .i64 (-1000 * (i : Int) - (p : Int) - 1)] _
      case c2 => exact kKids.one _ (kKids.mok i p)
      case c3 => unfold maxLen; omega
      case c4 => omega
      case c5 => have := hbel.size; simp; omega
      intro v' w2 hown' hgrow _
      have hb2 : Below w.heap.size w w2 := (hbel.alloc hbel.size _).grown hgrow (by have := hbel.size; simp; omega) (fun z hz => (hown.lt z hz).1)
      have hys : w2.ownsRow w.heap.size 50 2 v' (q + 1) (marksL kKids i f (q + 1)).flatten := by
        rw [marksL_snoc, List.flatten_append, ← hP.out]; exact hown'
      clear hown' hgrow hown hbel
      go_wp2
      go_roundw
      case rel => exact ⟨q + 1, by omega, by have := hP.out; go_num, hys, hb2⟩
      case measure => have := hP.out; simp [RowKit.intOf]; omega
    · obtain rfl : q = m := by omega
      have b1 : decide ((p : Int) < (f : Int) + (q : Int)) = false := decide_eq_false (by omega)
      go_wp2
      go_ret
      exact ⟨_, rfl, hown, hbel⟩
/-- marks from the first on, their slice laid open -/
theorem marks0Kids (w : World) (i m : Nat) (hi : i ≤ 500000) (hm : m ≤ 400000) :
    Calls Tryz.prog 102 #[.int .i64 i, .int .i64 0, .int .i64 m] w fun e w' => ∃ (a : Option Addr) (c : Nat), e = .returned (.slice a m c) ∧ (0 < m → ∃ g, a = some ⟨g, 0, none⟩) ∧ (tRow kKids (.slice a m c) (marksL kKids i 0 m)).At w' w.heap.size ∧ Below w.heap.size w w' := by
  refine (markKids_any w i 0 m hi (by omega) hm).mono fun e w' ⟨u, h1, h2, h3⟩ => ?_
  have h4 : (tRow kKids u (marksL kKids i 0 m)).At w' w.heap.size := by unfold Row.At tRow; rw [marksL_length]; exact h2
  rcases h4.slice with ⟨e1, e2, _⟩ | ⟨g, cp, e1, _⟩
  · have e3 : u = .slice none 0 0 := e1
    have e4 : m = 0 := by have := e2; unfold tRow at this; rw [marksL_length] at this; exact this
    subst e3 e4
    exact ⟨none, 0, h1, fun q => absurd q (Nat.lt_irrefl _), h4, h3⟩
  · have e3 : u = .slice (some ⟨g, 0, none⟩) m cp := by have := e1; unfold tRow at this; rw [marksL_length] at this; exact this
    subst e3
    exact ⟨_, cp, h1, fun _ => ⟨g, rfl⟩, h4, h3⟩
/-- some marks, behind the first ones, their cells -/
theorem marksPKids (w : World) (i f p : Nat) (hi : i ≤ 500000) (hf : f ≤ 400000) (hp : p ≤ 1000) (h0 : 0 < p) :
    Calls Tryz.prog 102 #[.int .i64 i, .int .i64 f, .int .i64 p] w fun e w' => ∃ (g c : Nat), e = .returned (.slice (some ⟨g, 0, none⟩) p c) ∧ (∀ j u, (marksL kKids i f p).flatten[j]? = some u → w'.cell? ((⟨g, 0, none⟩ : Addr).add j) = some u) ∧ Below w.heap.size w w' := by
  refine (markKids_any w i f p hi (by omega) (by omega)).mono fun e w' ⟨u, h1, h2, h3⟩ => ?_
  have h4 : (tRow kKids u (marksL kKids i f p)).At w' w.heap.size := by unfold Row.At tRow; rw [marksL_length]; exact h2
  rcases h4.slice with ⟨_, e2, _⟩ | ⟨g, cp, e1, hb, _⟩
  · exfalso
    have := e2; unfold tRow at this; rw [marksL_length] at this
    have : p = 0 := this
    omega
  · have e3 : u = .slice (some ⟨g, 0, none⟩) p cp := by have := e1; unfold tRow at this; rw [marksL_length] at this; exact this
    subst e3
    refine ⟨g, cp, h1, fun j x hx => ?_, h3⟩
    rw [Go.WideShapes.add_plain, Nat.zero_add]
    exact h4.cell hb hx

end Go.Proofs.YthihjkdankbnjaaGreat.PK
