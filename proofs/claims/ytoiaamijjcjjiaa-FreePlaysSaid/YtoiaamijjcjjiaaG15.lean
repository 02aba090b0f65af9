/-
  FreeRuns: which ids may be free; what the walk has between its calls.
-/
import Derived.Test.YtoiaamijjcjjiaaG14
namespace Go.Proofs.Ytoiaamijjcjjiaa.P7
open Go Go.RowKit Go.Lib Go.Proofs.Ytoiaamijjcjjiaa.PK

structure RisI (p : Int) (ids : List Int) : Prop where
  rise : Rising ids
  inn : ∀ x ∈ ids, 2 ≤ x ∧ x < p
theorem RisI.next {p x : Int} {ids : List Int} {k : Nat} (h : RisI p (ids.take k)) (hx : ids[k]? = some x) (h1 : 2 ≤ x) (h2 : x < p) (h3 : ∀ y, 0 < k → ids[k - 1]? = some y → y < x) : RisI p (ids.take (k + 1)) := by
  have e : ids.take (k + 1) = ids.take k ++ [x] := by rw [List.take_add_one, hx]; rfl
  rw [e]
  refine ⟨?_, fun y hy => ?_⟩
  · show List.Pairwise _ _
    rw [List.pairwise_append]
    refine ⟨h.rise, List.pairwise_singleton _ _, fun a ha b hb => ?_⟩
    rw [List.mem_singleton.1 hb]
    obtain ⟨j, hj⟩ := List.getElem?_of_mem ha
    have hjk := (List.getElem?_eq_some_iff.1 hj).1
    have hjk0 := hjk
    rw [List.length_take] at hjk
    have hk := (List.getElem?_eq_some_iff.1 hx).1
    obtain ⟨y, hy⟩ : ∃ y, ids[k - 1]? = some y := ⟨_, List.getElem?_eq_getElem (by omega)⟩
    have hyx := h3 y (by omega) hy
    by_cases q : j = k - 1
    · rw [List.getElem?_take_of_lt (by omega), q, hy] at hj
      cases hj
      exact hyx
    · have hy2 : (ids.take k)[k - 1]? = some y := by rw [List.getElem?_take_of_lt (by omega)]; exact hy
      obtain ⟨p0, q0⟩ := List.getElem?_eq_some_iff.1 hj
      obtain ⟨p1, q1⟩ := List.getElem?_eq_some_iff.1 hy2
      have := List.pairwise_iff_getElem.1 h.rise j (k - 1) p0 p1 (by omega)
      rw [q0, q1] at this
      omega
  · rcases List.mem_append.1 hy with q | q
    · exact h.inn y q
    · rw [List.mem_singleton.1 q]; omega
theorem not_rises {p x y : Int} {ids : List Int} {k : Nat} (hx : ids[k + 1]? = some x) (hy : ids[k]? = some y) (h : x ≤ y) : ¬ Rises p ids := fun q => by
  obtain ⟨p0, q0⟩ := List.getElem?_eq_some_iff.1 hy
  obtain ⟨p1, q1⟩ := List.getElem?_eq_some_iff.1 hx
  have := List.pairwise_iff_getElem.1 q.2.2.1 k (k + 1) p0 p1 (by omega)
  rw [q0, q1] at this
  omega
set_option maxRecDepth 100000 in
set_option maxHeartbeats 4000000 in
theorem rises_any (w : World) (p : Int) (v : Value) (ids : List Int) (hi : IL w v ids) (d : Bool) (hd : d = true ↔ Rises p ids) :
    Calls Try.prog 11 #[.int .i64 p, v] w fun e w' => e = .returned (.bool d) ∧ Below w.heap.size w w' := by
  obtain ⟨a, c, rfl, hno, hil, hc⟩ := hi
  have HI := Lib.hid (show ∀ W, Below w.heap.size w W → ∀ k x, ids[k]? = some x → ∃ b off, a = some ⟨b, off, none⟩ ∧ W.cell? ⟨b, off + k, none⟩ = some (.int .i64 x) from fun W hW k x hx => by
    obtain ⟨b, off, e, hb, hcc⟩ := hc (by have := (List.getElem?_eq_some_iff.1 hx).1; omega)
    exact ⟨b, off, e, by rw [hW.cell (p := ⟨b, off + k, none⟩) hb]; exact hcc k x hx⟩)
  obtain ⟨m, hm⟩ : ∃ m, m = ids.length := ⟨_, rfl⟩
  have HM := Lib.hid hm
  have HD := Lib.hid hd
  have HF : Hid (¬ Rises p ids → d = false) := fun q => by cases d with | true => exact absurd (hd.1 rfl) q | false => rfl
  rw [← hm] at hil ⊢
  clear hc hm hno hd
  go_enter Try.func11, Try.ntmps11
  go_wp2
  go_loopw [5] (fun vi wr => ∃ k : Nat, k ≤ m ∧ vi = .int .i64 k ∧ Hid (RisI p (ids.take k)) ∧ Hid (Below w.heap.size w wr)) (fun vi _ => m - (RowKit.intOf vi).toNat)
  case atStart => exact ⟨0, Nat.zero_le _, rfl, ⟨List.Pairwise.nil, fun _ q => (by cases q)⟩, Below.refl _ _⟩
  case round =>
    obtain ⟨k, hk, rfl, HR, HB⟩ := hrel
    by_cases hlt : k < m
    · obtain ⟨x, hx⟩ : ∃ x, ids[k]? = some x := ⟨_, List.getElem?_eq_getElem (by have := HM.out; omega)⟩
      obtain ⟨b, off, rfl, x1⟩ := HI.out wr HB.out k x hx
      have HX := Lib.hid hx
      have kk : (k : Int) < (m : Int) := by omega
      have kk0 : (0 : Int) ≤ (k : Int) := by omega
      by_cases b1 : x < 2
      · have HZ : Hid (d = false) := HF.out fun q => by have := (q.2.2.2 x (List.mem_of_getElem? hx)).1; omega
        clear hx
        go_wp2
        go_quiet (fail)
        go_wp2
        go_ret
        exact ⟨by rw [HZ.out]; rfl, drewB HB.out _⟩
      by_cases b2 : p ≤ x
      · have d1 : decide (x < 2) = false := decide_eq_false b1
        have HZ : Hid (d = false) := HF.out fun q => by have := (q.2.2.2 x (List.mem_of_getElem? hx)).2; omega
        clear hx b1
        go_wp2
        go_quiet (fail)
        go_wp2
        go_ret
        exact ⟨by rw [HZ.out]; rfl, drewB HB.out _⟩
      have d1 : decide (x < 2) = false := decide_eq_false b1
      have d2 : decide (p ≤ x) = false := decide_eq_false b2
      have hx2 : 2 ≤ x := by omega
      have hxp : x < p := by omega
      clear b1 b2
      by_cases k0 : k = 0
      · subst k0
        rw [Nat.add_zero] at x1
        have HN := Lib.hid (HR.out.next hx hx2 hxp (fun y q => absurd q (Nat.lt_irrefl _)))
        clear hx
        go_wp2
        go_quiet (fail)
        go_wp2
        go_roundw
        case rel => exact ⟨0 + 1, by omega, by go_num, HN, drewB HB.out _⟩
        case measure => simp [RowKit.intOf]; omega
      · obtain ⟨j, rfl⟩ : ∃ j, k = j + 1 := ⟨k - 1, by omega⟩
        obtain ⟨y, hy⟩ : ∃ y, ids[j]? = some y := ⟨_, List.getElem?_eq_getElem (by have := HM.out; omega)⟩
        obtain ⟨b', off', e', x2⟩ := HI.out wr HB.out j y hy
        obtain ⟨rfl, rfl⟩ : b = b' ∧ off = off' := by simpa using e'
        have j1 : (j : Int) < (m : Int) := by omega
        have j0 : (0 : Int) ≤ (j : Int) := by omega
        have k2 : (0 : Int) < (j : Int) + 1 := by omega
        clear k0 e'
        by_cases b3 : x ≤ y
        · have HZ : Hid (d = false) := HF.out (not_rises hx hy b3)
          clear hx hy
          go_wp2
          go_quiet (fail)
          go_wp2
          go_ret
          exact ⟨by rw [HZ.out]; rfl, drewB HB.out _⟩
        · have d3 : decide (x ≤ y) = false := decide_eq_false b3
          have HN := Lib.hid (HR.out.next hx hx2 hxp (fun z _ hz => by rw [Nat.add_sub_cancel, hy] at hz; cases hz; omega))
          clear hx hy b3
          go_wp2
          go_quiet (fail)
          go_wp2
          go_roundw
          case rel => exact ⟨j + 1 + 1, by omega, by go_num, HN, drewB HB.out _⟩
          case measure => simp [RowKit.intOf]; omega
    · obtain rfl : k = m := by omega
      have hri := HR.out
      rw [List.take_of_length_le (by have := HM.out; omega)] at hri
      clear hlt
      by_cases p1 : 2 ≤ p
      · have e1 : decide (2 ≤ p) = true := decide_eq_true p1
        by_cases p2 : p ≤ 4000
        · have e2 : decide (p ≤ 4000) = true := decide_eq_true p2
          have HZ : Hid (d = true) := HD.out.2 ⟨p1, p2, hri.rise, hri.inn⟩
          clear p1 p2
          go_wp2
          go_ret
          exact ⟨by rw [HZ.out]; rfl, HB.out⟩
        · have e2 : decide (p ≤ 4000) = false := decide_eq_false p2
          have HZ : Hid (d = false) := HF.out fun q => p2 q.2.1
          clear p1 p2
          go_wp2
          go_ret
          exact ⟨by rw [HZ.out]; rfl, HB.out⟩
      · have e1 : decide (2 ≤ p) = false := decide_eq_false p1
        have HZ : Hid (d = false) := HF.out fun q => p1 q.1
        clear p1
        go_wp2
        go_ret
        exact ⟨by rw [HZ.out]; rfl, HB.out⟩

end Go.Proofs.Ytoiaamijjcjjiaa.P7
