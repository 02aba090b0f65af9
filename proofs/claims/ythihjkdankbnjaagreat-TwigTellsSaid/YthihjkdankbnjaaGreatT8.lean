/-
  law10's Light: when it says yes, the items are few and short.
-/
import Derived.Test.YthihjkdankbnjaaGreatT0
import Derived.Deep.RegionHeld3
namespace Go.Proofs.YthihjkdankbnjaaGreat.P10
open Go Go.RowKit Go.Lib Go.Proofs.YthihjkdankbnjaaGreat.PK

/-- a list of ints as an argument reads -/
def IntsL (w : World) (v : Value) (l : List Int) : Prop :=
  ∃ a c, v = .slice a l.length c ∧ l.length ≤ 9223372036854775807 ∧ (0 < l.length → ∃ b off, a = some ⟨b, off, none⟩ ∧ b < w.heap.size ∧ ∀ i, i < l.length → w.cell? ⟨b, off + i, none⟩ = some (.int .i64 (l.getD i 0)))
theorem IntsL.below {w w' : World} {v : Value} {l : List Int} (h : IntsL w v l) (hb : Below w.heap.size w w') : IntsL w' v l := by
  obtain ⟨a, c, h1, h2, h3⟩ := h
  refine ⟨a, c, h1, h2, fun h0 => ?_⟩
  obtain ⟨b, off, h4, h5, h6⟩ := h3 h0
  exact ⟨b, off, h4, Nat.lt_of_lt_of_le h5 hb.size, fun i hi => (hb.cell (p := ⟨b, off + i, none⟩) h5).trans (h6 i hi)⟩
/-- how much room is left -/
def roomOf : Int → List Int → Int
  | r, [] => r
  | r, x :: l => if r < 0 ∨ r < x then -1 else roomOf (r - x) l
theorem roomOf_neg {r : Int} (h : r < 0) (l : List Int) : roomOf r l < 0 := by
  cases l with
  | nil => exact h
  | cons x l => rw [roomOf, if_pos (.inl h)]; decide
theorem roomOf_drop {r : Int} {l : List Int} {k : Nat} (h : k < l.length) : roomOf r (l.drop k) = if r < 0 ∨ r < l[k] then -1 else roomOf (r - l[k]) (l.drop (k + 1)) := by
  rw [List.drop_eq_getElem_cons h]; rfl

theorem room_any (w : World) (r : Int) (v : Value) (l : List Int) (h : IntsL w v l) (hr : r ≤ 9223372036854775807) (hp : ∀ i (h : i < l.length), 0 ≤ l[i]) :
    Calls Tryz.prog 19 #[.int .i64 r, v] w fun e w' => e = .returned (.int .i64 (roomOf r l)) ∧ w = w' := by
  obtain ⟨a, c, rfl, hl, hc⟩ := h
  go_enter Tryz.func19, Tryz.ntmps19
  go_wp2
  go_loop [0, 5] (fun q i => ∃ (k : Nat) (x : Int), k ≤ l.length ∧ i = .int .i64 k ∧ q = .int .i64 x ∧ x ≤ 9223372036854775807 ∧ Hid (roomOf r l = roomOf x (l.drop k))) (fun _ i => l.length - (RowKit.intOf i).toNat)
  case atStart => exact ⟨0, r, Nat.zero_le _, rfl, rfl, hr, rfl⟩
  case round =>
    obtain ⟨k, x, hk, rfl, rfl, hx, hxe⟩ := hrel
    by_cases hlt : k < l.length
    · obtain ⟨b, off, rfl, hb, hcc⟩ := hc (by omega)
      have hcell := hcc k hlt
      rw [show l.getD k 0 = l[k] by rw [List.getD_eq_getElem?_getD, List.getElem?_eq_getElem hlt]; rfl] at hcell
      have hpos := hp k hlt
      have hD := hxe.out.trans (roomOf_drop hlt)
      generalize l[k] = y at hcell hD hpos
      clear hcc hc hp hxe
      by_cases h0 : x < 0
      · have hR : Hid (roomOf r l = -1) := hD.trans (if_pos (.inl h0))
        have k0 : decide (x < 0) = true := decide_eq_true h0
        clear hD
        go_wp2
        go_ret
        exact ⟨by rw [hR.out]; rfl, rfl⟩
      · have k0 : decide (x < 0) = false := decide_eq_false h0
        by_cases h1 : x < y
        · have hR : Hid (roomOf r l = -1) := hD.trans (if_pos (.inr h1))
          have k1 : decide (x < y) = true := decide_eq_true h1
          clear hD
          go_wp2
          go_ret
          exact ⟨by rw [hR.out]; rfl, rfl⟩
        · have hR : Hid (roomOf r l = roomOf (x - y) (l.drop (k + 1))) := hD.trans (if_neg (by omega))
          have k1 : decide (x < y) = false := decide_eq_false h1
          clear hD
          go_wp2
          go_round
          case rel => exact ⟨k + 1, x - y, by omega, by go_num, by go_num, by omega, hR⟩
          case measure => simp [RowKit.intOf]; omega
    · have hR : Hid (roomOf r l = x) := by
        show _ = _
        rw [hxe.out, List.drop_eq_nil_of_le (by omega)]; rfl
      go_wp2
      go_ret
      exact ⟨by rw [hR.out]; rfl, rfl⟩



theorem room2 (w W : World) (r x y : Int) (hW : Below (w.alloc (.cells #[.int .i64 x, .int .i64 y] 3)).heap.size (w.alloc (.cells #[.int .i64 x, .int .i64 y] 3)) W) (hr : r ≤ 9223372036854775807) (hx : 0 ≤ x) (hy : 0 ≤ y) :
    Calls Tryz.prog 19 #[.int .i64 r, .slice (some ⟨w.heap.size, 0, none⟩) 2 2] W fun e w' =>
      (∃ q, e = .returned (.int .i64 q) ∧ (r ≤ 6000 → q ≤ 6000) ∧ (0 ≤ q → 0 ≤ r ∧ q = r - x - y)) ∧ W = w' := by
  have hI : IntsL (w.alloc (.cells #[.int .i64 x, .int .i64 y] 3)) (.slice (some ⟨w.heap.size, 0, none⟩) 2 2) [x, y] := by
    refine ⟨_, 2, rfl, by simp, fun _ => ⟨w.heap.size, 0, rfl, by simp, fun i hi => ?_⟩⟩
    rw [Nat.zero_add, cell_at (new_at w _ _)]
    match i, hi with
    | 0, _ => rfl
    | 1, _ => rfl
  refine (room_any W r _ [x, y] (hI.below hW) hr (fun i hi => ?_)).mono ?_
  · match i, hi with
    | 0, _ => exact hx
    | 1, _ => exact hy
  · rintro e w' ⟨rfl, rfl⟩
    refine ⟨⟨_, rfl, ?_, ?_⟩, rfl⟩ <;> simp only [roomOf] <;> split <;> (try split) <;> omega

/-- what Light says yes to -/
def LightI (l : List It) : Prop := l.length ≤ 300 ∧ sumI l ≤ 6000
def LightP (w : World) (l : List It) (e : Ending) (w' : World) : Prop := (∃ b, e = .returned (.bool b) ∧ (b = true → LightI l)) ∧ Below w.heap.size w w'
set_option maxRecDepth 100000 in
set_option maxHeartbeats 2000000 in
theorem light_any (w : World) (v : Value) (l : List It) (h : ItsIn w v l) :
    Calls Tryz.prog 4 #[v] w (LightP w l) := by
  obtain ⟨a, c, rfl⟩ := h.slice
  have hl := h.len
  have HR := Lib.hid room2
  have HA := Lib.hid (fun (i : Nat) (x : It) (hi : l[i]? = some x) => h.at_ hi)
  clear h
  go_enter Tryz.func4, Tryz.ntmps4
  go_wp2
  go_loopw [3, 4] (fun vr vi wr => ∃ (k : Nat) (x : Int), k ≤ l.length ∧ vi = .int .i64 k ∧ vr = .int .i64 x ∧ x ≤ 6000 ∧ Hid (0 ≤ x → x + (sumI (l.take k) : Int) ≤ 6000) ∧ Hid (Below w.heap.size w wr)) (fun _ vi _ => l.length - (RowKit.intOf vi).toNat)
  case atStart => exact ⟨0, 6000, Nat.zero_le _, rfl, rfl, by decide, (fun _ => by rw [List.take_zero, sumI_nil]; omega), Below.refl _ _⟩
  case round =>
    obtain ⟨k, x, hk, rfl, rfl, hx, hS, hB⟩ := hrel
    by_cases h1 : k < l.length
    · have i1 : decide ((k : Int) < (l.length : Int)) = true := decide_eq_true (by omega)
      have i1' : decide (k < l.length) = true := decide_eq_true h1
      by_cases h2 : k < 400
      · have i2 : decide ((k : Int) < 400) = true := decide_eq_true (by omega)
        have i2' : decide (k < 400) = true := decide_eq_true h2
        by_cases h3 : 0 ≤ x
        · have i3 : decide (0 ≤ x) = true := decide_eq_true h3
          obtain ⟨o, ho⟩ : ∃ o, l[k]? = some o := ⟨_, List.getElem?_eq_getElem h1⟩
          obtain ⟨b, off, rfl, hcc⟩ := HA.out k o ho
          have HXc : Hid (∀ W, Below w.heap.size w W → W.cell? ⟨b, off + k * 2, none⟩ = some (.string o.key)) := fun W hW => (hcc W hW).1
          have HR2 : Hid (∀ W, Below (wr.alloc (.cells #[.int .i64 4, .int .i64 (o.key.size : Nat)] 3)).heap.size (wr.alloc (.cells #[.int .i64 4, .int .i64 (o.key.size : Nat)] 3)) W → Calls Tryz.prog 19 #[.int .i64 x, .slice (some ⟨wr.heap.size, 0, none⟩) 2 2] W fun e w' =>
              (∃ q, e = .returned (.int .i64 q) ∧ (x ≤ 6000 → q ≤ 6000) ∧ (0 ≤ q → 0 ≤ x ∧ q = x - 4 - (o.key.size : Int))) ∧ W = w') := fun W hW => HR.out wr W x 4 (o.key.size : Nat) hW (by omega) (by omega) (by omega)
          have HS2 : Hid (∀ q : Int, (0 ≤ q → 0 ≤ x ∧ q = x - 4 - (o.key.size : Int)) → (0 ≤ q → q + (sumI (l.take (k + 1)) : Int) ≤ 6000)) := fun q hq h0 => by
            have e1 := sumI_take ho
            have e2 := hq h0
            have e3 := hS.out h3
            unfold It.need at e1
            omega
          have b0 : (0 : Int) ≤ (k : Int) := by omega
          have b1 : (k : Int) < (l.length : Int) := by omega
          obtain ⟨s, hs⟩ : ∃ s, s = o.key := ⟨_, rfl⟩
          rw [← hs] at HR2 HS2 HXc
          have HG := Lib.hid (fun (z1 z2 : Int) => grow hB.out (.cells #[.int .i64 z1, .int .i64 z2] 3))
          have HGd := Lib.hid (fun (z1 z2 : Int) => grow (thenBelow hB.out (Below.refl _ _).drew) (.cells #[.int .i64 z1, .int .i64 z2] 3))
          clear hcc ho hs HR HA hS
          have c0 := HXc.out _ hB.out
          go_wp2_with (go_at_call 19; (with_reducible refine (HR2.out _ (by first | exact (Below.refl _ _).drew | exact Below.refl _ _)).mono ?_); rintro e w2 ⟨⟨q, rfl, hq1, hq2⟩, rfl⟩; have HQ1 := Lib.hid hq1; have HQ2 := Lib.hid hq2; clear hq1 hq2)
          go_roundw
          case rel => exact ⟨k + 1, q, by omega, by go_num, rfl, HQ1.out (by omega), HS2.out q HQ2.out, by first | exact HG.out _ _ | exact HGd.out _ _ | exact thenBelow (HG.out _ _) (Below.refl _ _).drew⟩
          case measure => simp [RowKit.intOf]; omega
        · have i3 : decide (0 ≤ x) = false := decide_eq_false h3
          by_cases h4 : l.length ≤ 300
          · have i4 : decide ((l.length : Int) ≤ 300) = true := decide_eq_true (by omega)
            have i4' : decide (l.length ≤ 300) = true := decide_eq_true h4
            go_wp2
            go_ret
            exact ⟨⟨false, rfl, fun h => by cases h⟩, hB.out⟩
          · have i4 : decide ((l.length : Int) ≤ 300) = false := decide_eq_false (by omega)
            have i4' : decide (l.length ≤ 300) = false := decide_eq_false h4
            go_wp2
            go_ret
            exact ⟨⟨false, rfl, fun h => by cases h⟩, hB.out⟩
      · have i2 : decide ((k : Int) < 400) = false := decide_eq_false (by omega)
        have i2' : decide (k < 400) = false := decide_eq_false h2
        have i4 : decide ((l.length : Int) ≤ 300) = false := decide_eq_false (by omega)
        have i4' : decide (l.length ≤ 300) = false := decide_eq_false (by omega)
        go_wp2
        go_ret
        exact ⟨⟨false, rfl, fun h => by cases h⟩, hB.out⟩
    · have e9 : k = l.length := by omega
      subst e9
      have i1 : decide ((l.length : Int) < (l.length : Int)) = false := decide_eq_false (by omega)
      have i1' : decide (l.length < l.length) = false := decide_eq_false h1
      by_cases h4 : l.length ≤ 300
      · have i4 : decide ((l.length : Int) ≤ 300) = true := decide_eq_true (by omega)
        have i4' : decide (l.length ≤ 300) = true := decide_eq_true h4
        by_cases h3 : 0 ≤ x
        · have i3 : decide (0 ≤ x) = true := decide_eq_true h3
          have hOk : Hid (LightI l) := ⟨h4, by
            have := hS.out h3
            rw [List.take_length] at this
            omega⟩
          go_wp2
          go_ret
          exact ⟨⟨_, rfl, fun _ => hOk.out⟩, hB.out⟩
        · have i3 : decide (0 ≤ x) = false := decide_eq_false h3
          go_wp2
          go_ret
          exact ⟨⟨false, rfl, fun h => by cases h⟩, hB.out⟩
      · have i4 : decide ((l.length : Int) ≤ 300) = false := decide_eq_false (by omega)
        have i4' : decide (l.length ≤ 300) = false := decide_eq_false h4
        go_wp2
        go_ret
        exact ⟨⟨false, rfl, fun h => by cases h⟩, hB.out⟩

end Go.Proofs.YthihjkdankbnjaaGreat.P10
