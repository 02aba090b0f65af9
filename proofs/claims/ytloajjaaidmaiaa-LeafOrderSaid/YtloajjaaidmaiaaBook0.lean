/-
  The statements' helpers: Room, Short, by contracts.
-/
import Derived.Test.YtloajjaaidmaiaaBase0
namespace Go.Proofs.Ytloajjaaidmaiaa.P0
open Go Go.RowKit Go.Lib

/-- a list of ints: what the value v reads as -/
def IntsIn (w : World) (v : Value) (l : List Int) : Prop :=
  ∃ a c, v = .slice a l.length c ∧ (a = none → c = 0) ∧ l.length ≤ 9223372036854775807 ∧ (∀ i (h : i < l.length), -9223372036854775808 ≤ l[i] ∧ l[i] ≤ 9223372036854775807) ∧ (0 < l.length → ∃ b off, a = some ⟨b, off, none⟩ ∧ b < w.heap.size ∧ ∀ i (h : i < l.length), w.cell? ⟨b, off + i, none⟩ = some (.int .i64 l[i]))
theorem IntsIn.new (w : World) (l : List Int) (c : Nat) (hl : l.length ≤ 9223372036854775807) (hz : ∀ i (h : i < l.length), -9223372036854775808 ≤ l[i] ∧ l[i] ≤ 9223372036854775807) : IntsIn (w.alloc (.cells (l.map (Value.int .i64)).toArray 3)) (.slice (some ⟨w.heap.size, 0, none⟩) l.length c) l := by
  refine ⟨_, c, rfl, (fun h => by cases h), hl, hz, fun _ => ⟨w.heap.size, 0, rfl, by simp, fun i hi => ?_⟩⟩
  rw [cell_at (new_at w _ _)]
  simp [hi]

/-- how much room is left -/
def roomOf : Int → List Int → Int
  | r, [] => r
  | r, x :: l => if r < 0 ∨ r < x then -1 else roomOf (r - x) l
theorem roomOf_neg {r : Int} (h : r < 0) (l : List Int) : roomOf r l < 0 := by
  cases l with
  | nil => exact h
  | cons x l => rw [roomOf, if_pos (.inl h)]; decide
theorem roomOf_drop {r : Int} {l : List Int} {k : Nat} (h : k < l.length) : roomOf r (l.drop k) = if r < 0 ∨ r < l[k] then -1 else roomOf (r - l[k]) (l.drop (k + 1)) := by
  rw [List.drop_eq_getElem_cons h]; rfl

theorem room_any (w : World) (r : Int) (v : Value) (l : List Int) (h : IntsIn w v l) (hr : r ≤ 9223372036854775807) (hp : ∀ i (h : i < l.length), 0 ≤ l[i]) :
    Calls Try.prog 15 #[.int .i64 r, v] w fun e w' => e = .returned (.int .i64 (roomOf r l)) ∧ w = w' := by
  obtain ⟨a, c, rfl, _, hl, hz, hc⟩ := h
  go_enter Try.func15, Try.ntmps15
  go_wp2
  go_loop [0, 5] (fun q i => ∃ (k : Nat) (x : Int), k ≤ l.length ∧ i = .int .i64 k ∧ q = .int .i64 x ∧ x ≤ 9223372036854775807 ∧ Hid (roomOf r l = roomOf x (l.drop k))) (fun _ i => l.length - (RowKit.intOf i).toNat)
  case atStart => exact ⟨0, r, Nat.zero_le _, rfl, rfl, hr, rfl⟩
  case round =>
    obtain ⟨k, x, hk, rfl, rfl, hx, hxe⟩ := hrel
    by_cases hlt : k < l.length
    · obtain ⟨b, off, rfl, hb, hcc⟩ := hc (by omega)
      have hcell := hcc k hlt
      have hpos := hp k hlt
      have hD := hxe.out.trans (roomOf_drop hlt)
      generalize l[k] = y at hcell hD hpos
      clear hcc hc hz hp hxe
      by_cases h0 : x < 0
      · have hR : Hid (roomOf r l = -1) := hD.trans (if_pos (.inl h0))
        have k0 : decide (x < 0) = true := decide_eq_true h0
        clear hD
        go_wp2
        go_ret
        exact ⟨by rw [hR.out]; rfl, rfl⟩
      · have k0 : decide (x < 0) = false := decide_eq_false h0
        by_cases h1 : x < y
        · have hR : Hid (roomOf r l = -1) := hD.trans (if_pos (.inr h1))
          have k1 : decide (x < y) = true := decide_eq_true h1
          clear hD
          go_wp2
          go_ret
          exact ⟨by rw [hR.out]; rfl, rfl⟩
        · have hR : Hid (roomOf r l = roomOf (x - y) (l.drop (k + 1))) := hD.trans (if_neg (by omega))
          have k1 : decide (x < y) = false := decide_eq_false h1
          clear hD
          go_wp2
          go_round
          case rel => exact ⟨k + 1, x - y, by omega, by go_num, by go_num, by omega, hR⟩
          case measure => simp [RowKit.intOf]; omega
    · have hR : Hid (roomOf r l = x) := by
        show _ = _
        rw [hxe.out, List.drop_eq_nil_of_le (by omega)]; rfl
      go_wp2
      go_ret
      exact ⟨by rw [hR.out]; rfl, rfl⟩

/-- how long texts are -/
def sizes (l : List ByteArray) : List Int := l.map fun s => (s.size : Int)
theorem sizes_drop {l : List ByteArray} {k : Nat} (h : k < l.length) : (sizes l).drop k = (l[k].size : Int) :: (sizes l).drop (k + 1) := by
  rw [sizes, List.drop_eq_getElem_cons (by simpa using h)]; simp
/-- what Short answers -/
def shortB (few room : Int) (l : List ByteArray) : Bool := decide ((l.length : Int) ≤ few ∧ 0 ≤ roomOf room (sizes l))
theorem roomOf_total {r : Int} {l : List ByteArray} (h : 0 ≤ roomOf r (sizes l)) : ∀ i (hi : i < l.length), (l[i].size : Int) ≤ r := by
  induction l generalizing r with
  | nil => intro i hi; exact absurd hi (Nat.not_lt_zero _)
  | cons s l ih =>
    have e : roomOf r (sizes (s :: l)) = if r < 0 ∨ r < (s.size : Int) then -1 else roomOf (r - s.size) (sizes l) := rfl
    rw [e] at h
    split at h
    · omega
    · intro i hi
      match i, hi with
      | 0, _ => show (s.size : Int) ≤ r; omega
      | j + 1, hi =>
        have hj : j < l.length := by simpa using hi
        have := ih h j hj
        show (l[j].size : Int) ≤ r
        omega
theorem room_sum {r : Int} {l : List ByteArray} (h : 0 ≤ roomOf r (sizes l)) : (((l.map fun s => s.data.toList).flatten).length : Int) ≤ r := by
  induction l generalizing r with
  | nil => simpa [sizes, roomOf] using h
  | cons s l ih =>
    have e : roomOf r (sizes (s :: l)) = if r < 0 ∨ r < (s.size : Int) then -1 else roomOf (r - s.size) (sizes l) := rfl
    rw [e] at h
    split at h
    · omega
    · have := ih h
      have e2 := text_len s
      simp only [List.map_cons, List.flatten_cons, List.length_append, e2]
      omega

theorem room1_any (w : World) (n : Nat) (hn : w.heap.size = n) (r x : Int) (hr : r ≤ 9223372036854775807) (hx : 0 ≤ x) (hx1 : x ≤ 9223372036854775807) :
    Calls Try.prog 15 #[.int .i64 r, .slice (some ⟨n, 0, none⟩) 1 1] (w.alloc (.cells #[.int .i64 x] 3)) fun e w' => e = .returned (.int .i64 (roomOf r [x])) ∧ w.alloc (.cells #[.int .i64 x] 3) = w' := by
  subst hn
  refine room_any _ r _ [x] (IntsIn.new w [x] 1 (by simp) (fun i h => ?_)) hr (fun i h => ?_)
  · obtain rfl : i = 0 := by simpa using h
    exact ⟨show -9223372036854775808 ≤ x by omega, show x ≤ 9223372036854775807 from hx1⟩
  · obtain rfl : i = 0 := by simpa using h
    exact hx

theorem short_any (w : World) (v : Value) (l : List ByteArray) (few room : Int) (h : TextsIn w v l) (hr : room ≤ 9223372036854775807) (hr0 : -9223372036854775808 ≤ room) :
    Calls Try.prog 6 #[.int .i64 few, .int .i64 room, v] w fun e w' => e = .returned (.bool (shortB few room l)) ∧ Below w.heap.size w w' := by
  obtain ⟨a, c, rfl, _, hl, hz, hc⟩ := h
  obtain ⟨d, hd⟩ : ∃ d, d = shortB few room l := ⟨_, rfl⟩
  rw [← hd]
  unfold shortB at hd
  by_cases hfew : few < (l.length : Int)
  · have k0 : decide (few < (l.length : Int)) = true := decide_eq_true hfew
    have hdf : Hid (d = false) := hd.trans (decide_eq_false (by omega))
    clear hd
    go_enter Try.func6, Try.ntmps6
    go_wp2
    go_ret
    exact ⟨by rw [hdf.out]; rfl, Below.refl _ _⟩
  · have k0 : decide (few < (l.length : Int)) = false := decide_eq_false hfew
    have hd2 : Hid (d = decide (0 ≤ roomOf room (sizes l))) := by
      show _ = _
      rw [hd]
      congr 1
      simp; omega
    clear hd
    go_enter Try.func6, Try.ntmps6
    go_wp2
    go_loopw [1, 7] (fun q i wr => ∃ (k : Nat) (x : Int), k ≤ l.length ∧ i = .int .i64 k ∧ q = .int .i64 x ∧ x ≤ 9223372036854775807 ∧ -9223372036854775808 ≤ x ∧ Hid (0 ≤ roomOf room (sizes l) ↔ 0 ≤ roomOf x ((sizes l).drop k)) ∧ Below w.heap.size w wr) (fun _ i _ => l.length - (RowKit.intOf i).toNat)
    case atStart => exact ⟨0, room, Nat.zero_le _, rfl, rfl, hr, hr0, Iff.rfl, Below.refl _ _⟩
    case round =>
      obtain ⟨k, x, hk, rfl, rfl, hx, hx0, hxe, hB⟩ := hrel
      by_cases hlt : k < l.length
      · by_cases h0 : 0 ≤ x
        · obtain ⟨b, off, rfl, hb, hcc⟩ := hc (by omega)
          have hcell := hcc k hlt
          have hsz := hz k hlt
          have hD := hxe.out
          rw [sizes_drop hlt] at hD
          generalize l[k] = s at hcell hD hsz
          have hcw := (hB.cell (p := ⟨b, off + k, none⟩) hb).trans hcell
          have k1 : decide ((0 : Int) ≤ x) = true := decide_eq_true h0
          have hR : Hid (0 ≤ roomOf room (sizes l) ↔ 0 ≤ roomOf (roomOf x [(s.size : Int)]) ((sizes l).drop (k + 1))) := by
            refine hD.trans ?_
            by_cases h1 : x < (s.size : Int)
            · rw [roomOf, if_pos (.inr h1), roomOf, if_pos (.inr h1)]
              have := roomOf_neg (show (-1 : Int) < 0 by decide) ((sizes l).drop (k + 1))
              omega
            · rw [roomOf, if_neg (by omega), roomOf, if_neg (by omega), roomOf]
          have hy : roomOf x [(s.size : Int)] ≤ 9223372036854775807 ∧ -9223372036854775808 ≤ roomOf x [(s.size : Int)] := by
            rw [roomOf, roomOf]; split <;> omega
          have H := fun w' n (hn : w'.heap.size = n) => Lib.hid (room1_any w' n hn x (s.size : Int) hx (by omega) (by omega))
          generalize roomOf x [(s.size : Int)] = y at hR hy H
          obtain ⟨hy1, hy2⟩ := hy
          have hB2 := grow hB (.cells #[.int .i64 (s.size : Int)] 3)
          clear hB hcell hcc hc hz hD hxe
          go_wp2_with (go_at_call 15; with_reducible refine (H _ _ (by simp)).out.mono ?_; rintro e w2 ⟨rfl, rfl⟩)
          go_roundw
          case rel => exact ⟨k + 1, y, by omega, by go_num, rfl, hy1, hy2, hR, hB2⟩
          case measure => simp [RowKit.intOf]; omega
        · have k1 : decide ((0 : Int) ≤ x) = false := decide_eq_false h0
          have hdf : Hid (d = false) := by
            show _ = _
            rw [hd2.out]
            refine decide_eq_false fun e => ?_
            have h1 := hxe.out.1 e
            have h2 := roomOf_neg (show x < 0 by omega) ((sizes l).drop k)
            omega
          clear hc hz hxe
          go_wp2
          go_ret
          exact ⟨by rw [hdf.out]; rfl, hB⟩
      · have hdx : Hid (d = decide (0 ≤ x)) := by
          have h1 := hxe.out
          rw [List.drop_eq_nil_of_le (by rw [sizes, List.length_map]; omega), roomOf] at h1
          show _ = _
          rw [hd2.out]
          exact decide_eq_decide.2 h1
        clear hc hz hxe
        go_wp2
        go_ret
        exact ⟨by rw [hdx.out]; rfl, hB⟩

end Go.Proofs.Ytloajjaaidmaiaa.P0
