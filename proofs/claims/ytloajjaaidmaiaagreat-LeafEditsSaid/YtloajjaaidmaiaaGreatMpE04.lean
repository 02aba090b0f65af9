/-
  Texts of the proof of SaidEdit9, side by side: K3Items, V0, V1.
-/
import Derived.Test.YtloajjaaidmaiaaGreatMpE03
/-
  The book, Items: its kind; copied, compared, marks.
-/
namespace Go.Proofs.YtloajjaaidmaiaaGreat.PK
open Go Go.RowKit Go.Lib

/-- the kind -/
def kItems : Kd where
  e := 50
  n := 3
  te := 22
  p := 4
  ok := fun y => ∃ (s : ByteArray) (t : ByteArray) (x : Int), y = [.string s, .string t, .int .i64 x]
  mark := fun i k => [.string ⟨#[]⟩, .string ⟨#[]⟩, .int .i64 (-1000 * (i : Int) - (k : Int) - 1)]
  len := by rintro _ ⟨s, t, x, rfl⟩; rfl
  one := by
    rintro _ ⟨s, t, x, rfl⟩ u hu
    simp only [List.mem_cons, List.not_mem_nil, or_false] at hu
    rcases hu with rfl | rfl | rfl <;> rfl
  mok := fun i k => ⟨_, _, _, rfl⟩
  pos := by decide
theorem infoEItems : (Tryz.prog.info? 50).map (fun i => (i.zero, i.size, i.bytes)) = some (some (Value.agg #[.string ⟨#[]⟩, .string ⟨#[]⟩, .int .i64 0]), 3, 40) := by kernel_rfl
theorem infoSItems : (Tryz.prog.info? 22).map (fun i => (i.zero, i.size, i.bytes)) = some (some (.slice none 0 0), 1, 24) := by kernel_rfl
set_option maxRecDepth 100000 in
theorem sameItems_same (w : World) (u v : Value) (l : List (List Value)) (h1 : ElemsIn kItems w u l) (h2 : ElemsIn kItems w v l) :
    Calls Tryz.prog 14 #[u, v] w fun e w' => e = .returned (.bool true) ∧ Below w.heap.size w w' := by
  obtain ⟨a, c, rfl, _, hl, hok, hc⟩ := h1
  obtain ⟨a2, c2, rfl, _, _, _, hc2⟩ := h2
  go_enter Tryz.func14, Tryz.ntmps14
  go_wp2
  go_loopw [5] (fun i wr => ∃ k q : Nat, k ≤ l.length ∧ i = .int .i64 k ∧ wr = w.drewN q) (fun i _ => l.length - (RowKit.intOf i).toNat)
  case atStart => exact ⟨0, 0, Nat.zero_le _, rfl, rfl⟩
  case round =>
    obtain ⟨k, q, hk, rfl, rfl⟩ := hrel
    by_cases hlt : k < l.length
    · obtain ⟨b, off, rfl, hb, hcc⟩ := hc (by omega)
      obtain ⟨b2, off2, rfl, hb2, hcc2⟩ := hc2 (by omega)
      obtain ⟨y, hy⟩ : ∃ y, l[k]? = some y := ⟨_, List.getElem?_eq_getElem hlt⟩
      obtain ⟨s, t, x, rfl⟩ := hok y (List.mem_of_getElem? hy)
      have c0 : w.cell? ⟨b, off + k * 3, none⟩ = some (.string s) := by
        have h9 := hcc k _ hy 0 _ rfl
        rwa [show off + (k * kItems.n + 0) = off + k * 3 by show off + (k * 3 + 0) = off + k * 3; omega] at h9
      have d0 : w.cell? ⟨b2, off2 + k * 3, none⟩ = some (.string s) := by
        have h9 := hcc2 k _ hy 0 _ rfl
        rwa [show off2 + (k * kItems.n + 0) = off2 + k * 3 by show off2 + (k * 3 + 0) = off2 + k * 3; omega] at h9
      have c1 : w.cell? ⟨b, off + k * 3 + 1, none⟩ = some (.string t) := by
        have h9 := hcc k _ hy 1 _ rfl
        rwa [show off + (k * kItems.n + 1) = off + k * 3 + 1 by show off + (k * 3 + 1) = off + k * 3 + 1; omega] at h9
      have d1 : w.cell? ⟨b2, off2 + k * 3 + 1, none⟩ = some (.string t) := by
        have h9 := hcc2 k _ hy 1 _ rfl
        rwa [show off2 + (k * kItems.n + 1) = off2 + k * 3 + 1 by show off2 + (k * 3 + 1) = off2 + k * 3 + 1; omega] at h9
      have c2 : w.cell? ⟨b, off + k * 3 + 2, none⟩ = some (.int .i64 x) := by
        have h9 := hcc k _ hy 2 _ rfl
        rwa [show off + (k * kItems.n + 2) = off + k * 3 + 2 by show off + (k * 3 + 2) = off + k * 3 + 2; omega] at h9
      have d2 : w.cell? ⟨b2, off2 + k * 3 + 2, none⟩ = some (.int .i64 x) := by
        have h9 := hcc2 k _ hy 2 _ rfl
        rwa [show off2 + (k * kItems.n + 2) = off2 + k * 3 + 2 by show off2 + (k * 3 + 2) = off2 + k * 3 + 2; omega] at h9
      have kk : (k : Int) < (l.length : Int) := by omega
      have kk0 : (0 : Int) ≤ (k : Int) := by omega
      have e0 : (s.toList == s.toList) = true := beq_self_eq_true _
      have e1 : (t.toList == t.toList) = true := beq_self_eq_true _
      have e2 : (x == x) = true := beq_self_eq_true _
      clear hcc hcc2 hc hc2 hy hok
      go_wp2
      go_quiet (fail)
      go_wp2
      go_roundw
      case rel => exact ⟨k + 1, _, by omega, by go_num, rfl⟩
      case measure => simp [RowKit.intOf]; omega
    · clear hc hc2 hok
      go_wp2
      go_ret
      exact ⟨rfl, ⟨rfl, rfl, rfl, Nat.le_refl _, fun _ _ => rfl⟩⟩
set_option maxHeartbeats 1000000 in
theorem markItems_any (w : World) (i f m : Nat) (hi : i ≤ 500000) (hf : f ≤ 500000) (hm : m ≤ 400000) :
    Calls Tryz.prog 111 #[.int .i64 i, .int .i64 f, .int .i64 m] w fun e w' => ∃ u, e = .returned u ∧ w'.ownsRow w.heap.size 50 3 u m (marksL kItems i f m).flatten ∧ Below w.heap.size w w' := by
  obtain ⟨i0, hi0, hz0, hz1, hz2⟩ := info_parts infoEItems
  go_enter Tryz.func111, Tryz.ntmps111
  go_wp2
  go_loopw [7, 8] (fun v vk wr => ∃ q : Nat, q ≤ m ∧ vk = .int .i64 ((f + q : Nat) : Int) ∧ wr.ownsRow w.heap.size 50 3 v q (marksL kItems i f q).flatten ∧ Below w.heap.size w wr) (fun _ vk _ => f + m - (RowKit.intOf vk).toNat)
  case atStart => exact ⟨0, Nat.zero_le _, by simp, World.ownsRow_nil _ _ _ _, Below.refl _ _⟩
  case round =>
    obtain ⟨q, hq, rfl, hown, hbel⟩ := hrel
    obtain ⟨p, hp⟩ : ∃ p : Nat, p = f + q := ⟨_, rfl⟩
    rw [← hp]
    by_cases hqn : q < m
    · have b1 : decide ((p : Int) < (f : Int) + (m : Int)) = true := decide_eq_true (by omega)
      have pb : p ≤ 1000000 := by omega
      have hP := Lib.hid hp
      clear hp
      go_wp2_with (at_builtin; refine wpList_append_own _ rfl _ _ 22 rfl w.heap.size 50 i0 (Value.agg #[.string ⟨#[]⟩, .string ⟨#[]⟩, .int .i64 0]) 3 40 Tryz.underlying22 hi0 hz0 hz1 hz2 rfl (by decide) _ _ _ rfl (hown.alloc _) ⟨wr.heap.size, 0, none⟩ 1 1 [.string ⟨#[]⟩, .string ⟨#[]⟩, .int .i64 (-1000 * (i : Int) - (p : Int) - 1)] rfl rfl ?c1 ?c2 ?c3 ?c4 ?c5 ?_)
      case c1 => exact cells_new _ [.string ⟨#[]⟩, .string ⟨#[]⟩, .int .i64 (-1000 * (i : Int) - (p : Int) - 1)] _
      case c2 => exact kItems.one _ (kItems.mok i p)
      case c3 => unfold maxLen; omega
      case c4 => omega
      case c5 => have := hbel.size; simp; omega
      intro v' w2 hown' hgrow _
      have hb2 : Below w.heap.size w w2 := (hbel.alloc hbel.size _).grown hgrow (by have := hbel.size; simp; omega) (fun z hz => (hown.lt z hz).1)
      have hys : w2.ownsRow w.heap.size 50 3 v' (q + 1) (marksL kItems i f (q + 1)).flatten := by
        rw [marksL_snoc, List.flatten_append, ← hP.out]; exact hown'
      clear hown' hgrow hown hbel
      go_wp2
      go_roundw
      case rel => exact ⟨q + 1, by omega, by have := hP.out; go_num, hys, hb2⟩
      case measure => have := hP.out; simp [RowKit.intOf]; omega
    · obtain rfl : q = m := by omega
      have b1 : decide ((p : Int) < (f : Int) + (q : Int)) = false := decide_eq_false (by omega)
      go_wp2
      go_ret
      exact ⟨_, rfl, hown, hbel⟩
/-- marks from the first on, their slice laid open -/
theorem marks0Items (w : World) (i m : Nat) (hi : i ≤ 500000) (hm : m ≤ 400000) :
    Calls Tryz.prog 111 #[.int .i64 i, .int .i64 0, .int .i64 m] w fun e w' => ∃ (a : Option Addr) (c : Nat), e = .returned (.slice a m c) ∧ (0 < m → ∃ g, a = some ⟨g, 0, none⟩) ∧ (tRow kItems (.slice a m c) (marksL kItems i 0 m)).At w' w.heap.size ∧ Below w.heap.size w w' := by
  refine (markItems_any w i 0 m hi (by omega) hm).mono fun e w' ⟨u, h1, h2, h3⟩ => ?_
  have h4 : (tRow kItems u (marksL kItems i 0 m)).At w' w.heap.size := by unfold Row.At tRow; rw [marksL_length]; exact h2
  rcases h4.slice with ⟨e1, e2, _⟩ | ⟨g, cp, e1, _⟩
  · have e3 : u = .slice none 0 0 := e1
    have e4 : m = 0 := by have := e2; unfold tRow at this; rw [marksL_length] at this; exact this
    subst e3 e4
    exact ⟨none, 0, h1, fun q => absurd q (Nat.lt_irrefl _), h4, h3⟩
  · have e3 : u = .slice (some ⟨g, 0, none⟩) m cp := by have := e1; unfold tRow at this; rw [marksL_length] at this; exact this
    subst e3
    exact ⟨_, cp, h1, fun _ => ⟨g, rfl⟩, h4, h3⟩
/-- some marks, behind the first ones, their cells -/
theorem marksPItems (w : World) (i f p : Nat) (hi : i ≤ 500000) (hf : f ≤ 400000) (hp : p ≤ 1000) (h0 : 0 < p) :
    Calls Tryz.prog 111 #[.int .i64 i, .int .i64 f, .int .i64 p] w fun e w' => ∃ (g c : Nat), e = .returned (.slice (some ⟨g, 0, none⟩) p c) ∧ (∀ j u, (marksL kItems i f p).flatten[j]? = some u → w'.cell? ((⟨g, 0, none⟩ : Addr).add j) = some u) ∧ Below w.heap.size w w' := by
  refine (markItems_any w i f p hi (by omega) (by omega)).mono fun e w' ⟨u, h1, h2, h3⟩ => ?_
  have h4 : (tRow kItems u (marksL kItems i f p)).At w' w.heap.size := by unfold Row.At tRow; rw [marksL_length]; exact h2
  rcases h4.slice with ⟨_, e2, _⟩ | ⟨g, cp, e1, hb, _⟩
  · exfalso
    have := e2; unfold tRow at this; rw [marksL_length] at this
    have : p = 0 := this
    omega
  · have e3 : u = .slice (some ⟨g, 0, none⟩) p cp := by have := e1; unfold tRow at this; rw [marksL_length] at this; exact this
    subst e3
    refine ⟨g, cp, h1, fun j x hx => ?_, h3⟩
    rw [Go.WideShapes.add_plain, Nat.zero_add]
    exact h4.cell hb hx

end Go.Proofs.YtloajjaaidmaiaaGreat.PK

/-
  Items: what they are, in memory; how many bytes they need; which may be; which stand in order.
-/
namespace Go.Proofs.YtloajjaaidmaiaaGreat.P9
open Go Go.RowKit Go.Lib Go.Proofs.YtloajjaaidmaiaaGreat.PK

structure It where
  key : ByteArray
  val : ByteArray
  kind : Int
def It.cells (x : It) : List Value := [.string x.key, .string x.val, .int .i64 x.kind]
def It.v (x : It) : Value := .agg #[.string x.key, .string x.val, .int .i64 x.kind]
def It.need (x : It) : Nat := 5 + x.key.size + x.val.size
def It.ok (x : It) : Bool := decide (1 ≤ x.key.size ∧ x.key.size ≤ 32 ∧ 0 ≤ x.kind ∧ x.kind ≤ 2 ∧ x.val.size ≤ 96)
/-- how many bytes items need -/
def sumI (l : List It) : Nat := (l.map It.need).sum
def cellsI (l : List It) : List (List Value) := l.map It.cells
theorem It.okc (x : It) : kItems.ok x.cells := ⟨_, _, _, rfl⟩
theorem cellsI_length (l : List It) : (cellsI l).length = l.length := by simp [cellsI]
theorem cellsI_ok (l : List It) : Oks kItems (cellsI l) := fun x hx => by
  obtain ⟨y, _, rfl⟩ := List.mem_map.1 hx
  exact y.okc
theorem cellsI_at {l : List It} {i : Nat} {x : It} (h : l[i]? = some x) : (cellsI l)[i]? = some x.cells := by simp [cellsI, h]
/-- a list of items: what the value v reads as -/
def ItsIn (w : World) (v : Value) (l : List It) : Prop := ElemsIn kItems w v (cellsI l)
theorem ItsIn.below {w w' : World} {v : Value} {l : List It} (h : ItsIn w v l) (hb : Below w.heap.size w w') : ItsIn w' v l := ElemsIn.below h hb
theorem ItsIn.slice {w : World} {v : Value} {l : List It} (h : ItsIn w v l) : ∃ a c, v = .slice a l.length c := by
  obtain ⟨a, c, h, _⟩ := h
  exact ⟨a, c, by rw [cellsI_length] at h; exact h⟩
theorem ItsIn.len {w : World} {v : Value} {l : List It} (h : ItsIn w v l) : l.length ≤ 9223372036854775807 := by
  obtain ⟨a, c, _, _, h, _⟩ := h
  rwa [cellsI_length] at h
/-- its i-th item -/
theorem ItsIn.at_ {w : World} {a : Option Addr} {n c : Nat} {l : List It} (h : ItsIn w (.slice a n c) l) {i : Nat} {x : It} (hi : l[i]? = some x) :
    ∃ b off, a = some ⟨b, off, none⟩ ∧ ∀ w', Below w.heap.size w w' → w'.cell? ⟨b, off + i * 3, none⟩ = some (.string x.key) ∧ w'.cell? ⟨b, off + i * 3 + 1, none⟩ = some (.string x.val) ∧ w'.cell? ⟨b, off + i * 3 + 2, none⟩ = some (.int .i64 x.kind) := by
  obtain ⟨a', c', e, _, _, _, hc⟩ := h
  simp only [Value.slice.injEq] at e
  obtain ⟨rfl, _, _⟩ := e
  obtain ⟨b, off, rfl, hb, hcc⟩ := hc (by rw [cellsI_length]; have := (List.getElem?_eq_some_iff.1 hi).1; omega)
  refine ⟨b, off, rfl, fun w' hw => ?_⟩
  have k : ∀ (j : Nat) (u : Value), x.cells[j]? = some u → w'.cell? ⟨b, off + (i * 3 + j), none⟩ = some u := fun j u hu => (hw.cell (p := ⟨b, off + (i * 3 + j), none⟩) hb).trans (hcc i _ (cellsI_at hi) j u hu)
  refine ⟨k 0 _ rfl, ?_, ?_⟩
  · have := k 1 _ rfl
    rwa [show off + (i * 3 + 1) = off + i * 3 + 1 by omega] at this
  · have := k 2 _ rfl
    rwa [show off + (i * 3 + 2) = off + i * 3 + 2 by omega] at this
theorem sumI_nil : sumI [] = 0 := rfl
theorem sumI_cons (x : It) (l : List It) : sumI (x :: l) = x.need + sumI l := by simp [sumI]
theorem sumI_app (l m : List It) : sumI (l ++ m) = sumI l + sumI m := by simp [sumI]
theorem sumI_take {l : List It} {i : Nat} {x : It} (h : l[i]? = some x) : sumI (l.take (i + 1)) = sumI (l.take i) + x.need := by
  rw [List.take_add_one, h, sumI_app]
  simp [sumI]
theorem sumI_le {l : List It} (i : Nat) : sumI (l.take i) ≤ sumI l := by
  conv => rhs; rw [← List.take_append_drop i l, sumI_app]
  exact Nat.le_add_right _ _
theorem owns_itsP {w : World} {lo : Nat} {v : Value} {l : List It} (h : w.ownsRow lo 50 3 v l.length (cellsI l).flatten) (hl : l.length ≤ 1000000) : ItsIn w v l := by
  refine tRow_elems (κ := kItems) (lo := lo) ?_ (by rw [cellsI_length]; omega) (cellsI_ok l)
  show w.ownsRow lo 50 3 v (cellsI l).length (cellsI l).flatten
  rw [cellsI_length]
  exact h
/-- a row of items of one's own -/
def OwnI (lo : Nat) (w : World) (v : Value) (l : List It) : Prop := w.ownsRow lo 50 3 v l.length (cellsI l).flatten ∧ l.length ≤ 1000000
theorem OwnI.its {lo : Nat} {w : World} {v : Value} {l : List It} (h : OwnI lo w v l) : ItsIn w v l := owns_itsP h.1 h.2
theorem OwnI.below {lo : Nat} {w w' : World} {v : Value} {l : List It} (h : OwnI lo w v l) (k : Below w.heap.size w w') : OwnI lo w' v l := ⟨owns_below h.1 k, h.2⟩
theorem OwnI.nil (lo : Nat) (w : World) : OwnI lo w (.slice none 0 0) [] := ⟨World.ownsRow_nil _ _ _ _, Nat.zero_le _⟩
theorem OwnI.lo_ {lo lo' : Nat} {w : World} {v : Value} {l : List It} (h : OwnI lo w v l) (k : lo' ≤ lo) : OwnI lo' w v l := ⟨owns_lo h.1 k, h.2⟩

end Go.Proofs.YtloajjaaidmaiaaGreat.P9

/-
  Items: the reference's ValidItem.
-/
namespace Go.Proofs.YtloajjaaidmaiaaGreat.P9
open Go Go.RowKit Go.Lib Go.Proofs.YtloajjaaidmaiaaGreat.PK

set_option maxHeartbeats 4000000 in
theorem rvalid_any (w : World) (x : It) :
    Calls Tryz.prog 19 #[x.v] w fun r w' => r = .returned (.bool x.ok) ∧ Below w.heap.size w w' := by
  obtain ⟨key, val, kind⟩ := x
  by_cases h0 : 1 ≤ key.size
  · by_cases h1 : key.size ≤ 32
    · by_cases h2 : 0 ≤ kind
      · by_cases h3 : kind ≤ 2
        · by_cases h4 : val.size ≤ 96
          · have e : It.ok ⟨key, val, kind⟩ = true := decide_eq_true ⟨h0, h1, h2, h3, h4⟩
            rw [e]
            clear e
            have b0x : decide ((1 : Int) ≤ (key.size : Int)) = true := decide_eq_true (by omega)
            have b0y : decide (1 ≤ key.size) = true := decide_eq_true (by omega)
            have b0z : decide (0 < key.size) = true := decide_eq_true (by omega)
            have b1x : decide ((key.size : Int) ≤ 32) = true := decide_eq_true (by omega)
            have b1y : decide (key.size ≤ 32) = true := decide_eq_true (by omega)
            have b2x : decide ((0 : Int) ≤ kind) = true := decide_eq_true (by omega)
            have b3x : decide (kind ≤ (2 : Int)) = true := decide_eq_true (by omega)
            have b4x : decide ((val.size : Int) ≤ 96) = true := decide_eq_true (by omega)
            have b4y : decide (val.size ≤ 96) = true := decide_eq_true (by omega)
            clear h0 h1 h2 h3 h4
            unfold It.v
            go_enter Tryz.func19, Tryz.ntmps19
            go_wp2
            go_ret
            exact ⟨rfl, below_new _ _⟩
          · have e : It.ok ⟨key, val, kind⟩ = false := decide_eq_false (fun h => h4 (h.2.2.2.2))
            rw [e]
            clear e
            have b0x : decide ((1 : Int) ≤ (key.size : Int)) = true := decide_eq_true (by omega)
            have b0y : decide (1 ≤ key.size) = true := decide_eq_true (by omega)
            have b0z : decide (0 < key.size) = true := decide_eq_true (by omega)
            have b1x : decide ((key.size : Int) ≤ 32) = true := decide_eq_true (by omega)
            have b1y : decide (key.size ≤ 32) = true := decide_eq_true (by omega)
            have b2x : decide ((0 : Int) ≤ kind) = true := decide_eq_true (by omega)
            have b3x : decide (kind ≤ (2 : Int)) = true := decide_eq_true (by omega)
            have b4x : decide ((val.size : Int) ≤ 96) = false := decide_eq_false (by omega)
            have b4y : decide (val.size ≤ 96) = false := decide_eq_false (by omega)
            clear h0 h1 h2 h3 h4
            unfold It.v
            go_enter Tryz.func19, Tryz.ntmps19
            go_wp2
            go_ret
            exact ⟨rfl, below_new _ _⟩
        · have e : It.ok ⟨key, val, kind⟩ = false := decide_eq_false (fun h => h3 (h.2.2.2.1))
          rw [e]
          clear e
          have b0x : decide ((1 : Int) ≤ (key.size : Int)) = true := decide_eq_true (by omega)
          have b0y : decide (1 ≤ key.size) = true := decide_eq_true (by omega)
          have b0z : decide (0 < key.size) = true := decide_eq_true (by omega)
          have b1x : decide ((key.size : Int) ≤ 32) = true := decide_eq_true (by omega)
          have b1y : decide (key.size ≤ 32) = true := decide_eq_true (by omega)
          have b2x : decide ((0 : Int) ≤ kind) = true := decide_eq_true (by omega)
          have b3x : decide (kind ≤ (2 : Int)) = false := decide_eq_false (by omega)
          clear h0 h1 h2 h3
          unfold It.v
          go_enter Tryz.func19, Tryz.ntmps19
          go_wp2
          go_ret
          exact ⟨rfl, below_new _ _⟩
      · have e : It.ok ⟨key, val, kind⟩ = false := decide_eq_false (fun h => h2 (h.2.2.1))
        rw [e]
        clear e
        have b0x : decide ((1 : Int) ≤ (key.size : Int)) = true := decide_eq_true (by omega)
        have b0y : decide (1 ≤ key.size) = true := decide_eq_true (by omega)
        have b0z : decide (0 < key.size) = true := decide_eq_true (by omega)
        have b1x : decide ((key.size : Int) ≤ 32) = true := decide_eq_true (by omega)
        have b1y : decide (key.size ≤ 32) = true := decide_eq_true (by omega)
        have b2x : decide ((0 : Int) ≤ kind) = false := decide_eq_false (by omega)
        clear h0 h1 h2
        unfold It.v
        go_enter Tryz.func19, Tryz.ntmps19
        go_wp2
        go_ret
        exact ⟨rfl, below_new _ _⟩
    · have e : It.ok ⟨key, val, kind⟩ = false := decide_eq_false (fun h => h1 (h.2.1))
      rw [e]
      clear e
      have b0x : decide ((1 : Int) ≤ (key.size : Int)) = true := decide_eq_true (by omega)
      have b0y : decide (1 ≤ key.size) = true := decide_eq_true (by omega)
      have b0z : decide (0 < key.size) = true := decide_eq_true (by omega)
      have b1x : decide ((key.size : Int) ≤ 32) = false := decide_eq_false (by omega)
      have b1y : decide (key.size ≤ 32) = false := decide_eq_false (by omega)
      clear h0 h1
      unfold It.v
      go_enter Tryz.func19, Tryz.ntmps19
      go_wp2
      go_ret
      exact ⟨rfl, below_new _ _⟩
  · have e : It.ok ⟨key, val, kind⟩ = false := decide_eq_false (fun h => h0 (h.1))
    rw [e]
    clear e
    have b0x : decide ((1 : Int) ≤ (key.size : Int)) = false := decide_eq_false (by omega)
    have b0y : decide (1 ≤ key.size) = false := decide_eq_false (by omega)
    have b0z : decide (0 < key.size) = false := decide_eq_false (by omega)
    clear h0
    unfold It.v
    go_enter Tryz.func19, Tryz.ntmps19
    go_wp2
    go_ret
    exact ⟨rfl, below_new _ _⟩

end Go.Proofs.YtloajjaaidmaiaaGreat.P9
