/-
  P601, P602: a meta counts only in its own slot; the order in which two stand does not make up for it: the walk of the statement MetaSlots. (Written by gen_meta_slots.py.)
-/
import Derived.Test.YtnmklhajpcnkoaaArgs6
import Derived.Test.YtnmklhajpcnkoaaMt16
import Derived.Deep.Cut
import Derived.Deep.RegionHeld3
namespace Go.Proofs.Ytnmklhajpcnkoaa.P6
open Go Go.RowKit Go.Lib Go.Proofs.Ytnmklhajpcnkoaa.P0 Go.Proofs.Ytnmklhajpcnkoaa.P2 Go.Proofs.Ytnmklhajpcnkoaa.P5

theorem Bkd.fill0 {w0 : World} {l : List (Nat × Array Value × TypeId)} {w : World} {b : Nat} {c0 c1 c2 c3 : Value} {t : TypeId} (h : Bkd w0 ((b, #[c0, c1, c2, c3], t) :: l) w) (a0 a1 a2 a3 : Value) :
    Bkd w0 ((b, #[a0, a1, a2, a3], t) :: l) ((((w.setCell ⟨b, 0, none⟩ a0).setCell ⟨b, 1, none⟩ a1).setCell ⟨b, 2, none⟩ a2).setCell ⟨b, 3, none⟩ a3) :=
  (((h.set 0 rfl 0 a0).set 0 rfl 1 a1).set 0 rfl 2 a2).set 0 rfl 3 a3
theorem bkd_args (w : World) (m n : Mt) : Bkd w [(w.heap.size + 1, n.cells, 23), (w.heap.size, m.cells, 23)] ((w.alloc (.cells m.cells 23)).alloc (.cells n.cells 23)) := by
  have h := ((Bkd.nil w).new m.cells 23).new n.cells 23
  have e : (w.alloc (.cells m.cells 23)).heap.size = w.heap.size + 1 := by simp
  rw [e] at h
  exact h

set_option maxRecDepth 100000 in
set_option maxHeartbeats 4000000 in
theorem slots_mbad (w : World) (m n : Mt) (h : ¬ m.ok) :
    Calls Try.prog 5 #[m.v, n.v] w fun r w' => r = .returned (.bool true) ∧ Below w.heap.size w w' := by
  have K := fun w' => Lib.hid (alive_any6 w')
  have L1 := fun W => Lib.hid (mlay_bad W m h)
  have L2 := fun W => Lib.hid (mlay_any W n)
  have V1 := fun W => Lib.hid (mvalid_any W m)
  rw [decide_eq_false h] at V1
  obtain ⟨e2, he2⟩ : ∃ e : Int, mlaidE n = e := ⟨_, rfl⟩
  rw [he2] at L2
  generalize mlaidB n = T at *
  have HST := Lib.hid (bkd_args w m n)
  have CM := Lib.hid (show ∀ W, Bkd w [(w.heap.size + 1, n.cells, 23), (w.heap.size, m.cells, 23)] W → _ ∧ _ from fun W k => ⟨cells4 (k.bks.at_ 1 rfl), cells4 (k.bks.at_ 0 rfl)⟩)
  have BW := Lib.hid (show ∀ W, Bkd w [(w.heap.size + 1, n.cells, 23), (w.heap.size, m.cells, 23)] W → Below w.heap.size w W from fun W k => k.bks.below)
  clear h he2
  obtain ⟨x0, x1, x2, x3⟩ := m
  obtain ⟨y0, y1, y2, y3⟩ := n
  unfold Mt.v Mt.cells at *
  go_enter Try.func5, Try.ntmps5
  go_wp2_with (first
    | (go_at_call 6; (with_reducible refine (K _).out.mono ?_); rintro e w1 ⟨rfl, hb⟩; have s1 := HST.out.over hb; clear hb; obtain ⟨⟨c0, c1, c2, c3⟩, d0, d1, d2, d3⟩ := CM.out _ s1)
    | (go_at_call 7; (with_reducible refine (L1 _).out.mono ?_); rintro e w2 ⟨rfl, hb⟩; have s2 := s1.over hb; clear hb; obtain ⟨⟨c0, c1, c2, c3⟩, d0, d1, d2, d3⟩ := CM.out _ s2)
    | (go_at_call 7; (with_reducible refine (L2 _).out.mono ?_); rintro e w3 ⟨rfl, hb⟩; have s3 := s2.over hb; clear hb; obtain ⟨⟨c0, c1, c2, c3⟩, d0, d1, d2, d3⟩ := CM.out _ s3)
    | (go_at_call 10; (with_reducible refine (V1 _).out.mono ?_); rintro e w4 ⟨rfl, hb⟩; have s4 := s3.over hb; clear hb))
  go_ret
  exact ⟨rfl, BW.out _ s4⟩
set_option maxRecDepth 100000 in
set_option maxHeartbeats 4000000 in
theorem slots_nbad (w : World) (m n : Mt) (hm : m.ok) (h : ¬ n.ok) :
    Calls Try.prog 5 #[m.v, n.v] w fun r w' => r = .returned (.bool true) ∧ Below w.heap.size w w' := by
  have K := fun w' => Lib.hid (alive_any6 w')
  have L1 := fun W => Lib.hid (mlay_ok W m hm)
  have L2 := fun W => Lib.hid (mlay_bad W n h)
  have V1 := fun W => Lib.hid (mvalid_any W m)
  rw [decide_eq_true hm] at V1
  generalize m.sector = S at *
  have HST := Lib.hid (bkd_args w m n)
  have CM := Lib.hid (show ∀ W, Bkd w [(w.heap.size + 1, n.cells, 23), (w.heap.size, m.cells, 23)] W → _ ∧ _ from fun W k => ⟨cells4 (k.bks.at_ 1 rfl), cells4 (k.bks.at_ 0 rfl)⟩)
  have BW := Lib.hid (show ∀ W, Bkd w [(w.heap.size + 1, n.cells, 23), (w.heap.size, m.cells, 23)] W → Below w.heap.size w W from fun W k => k.bks.below)
  clear h hm
  obtain ⟨x0, x1, x2, x3⟩ := m
  obtain ⟨y0, y1, y2, y3⟩ := n
  unfold Mt.v Mt.cells at *
  go_enter Try.func5, Try.ntmps5
  go_wp2_with (first
    | (go_at_call 6; (with_reducible refine (K _).out.mono ?_); rintro e w1 ⟨rfl, hb⟩; have s1 := HST.out.over hb; clear hb; obtain ⟨⟨c0, c1, c2, c3⟩, d0, d1, d2, d3⟩ := CM.out _ s1)
    | (go_at_call 7; (with_reducible refine (L1 _).out.mono ?_); rintro e w2 ⟨rfl, hb⟩; have s2 := s1.over hb; clear hb; obtain ⟨⟨c0, c1, c2, c3⟩, d0, d1, d2, d3⟩ := CM.out _ s2)
    | (go_at_call 7; (with_reducible refine (L2 _).out.mono ?_); rintro e w3 ⟨rfl, hb⟩; have s3 := s2.over hb; clear hb; obtain ⟨⟨c0, c1, c2, c3⟩, d0, d1, d2, d3⟩ := CM.out _ s3)
    | (go_at_call 10; (with_reducible refine (V1 _).out.mono ?_); rintro e w4 ⟨rfl, hb⟩; have s4 := s3.over hb; clear hb))
  go_ret
  exact ⟨rfl, BW.out _ s4⟩

end Go.Proofs.Ytnmklhajpcnkoaa.P6
