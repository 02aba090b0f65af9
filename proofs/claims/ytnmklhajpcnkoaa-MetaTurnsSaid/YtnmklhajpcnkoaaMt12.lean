/-
  Package meta's standing, Choose and First, by contracts.
-/
import Derived.Test.YtnmklhajpcnkoaaMt11
namespace Go.Proofs.Ytnmklhajpcnkoaa.P6
open Go Go.RowKit Go.Lib Go.Proofs.Ytnmklhajpcnkoaa.P0 Go.Proofs.Ytnmklhajpcnkoaa.P2 Go.Proofs.Ytnmklhajpcnkoaa.P5

/-- the meta of the sector at a place -/
def standM (b : ByteArray) (c : Int) : Mt := if readR b = 0 ∧ (readM b).tx % 2 = c then readM b else Mt.zero
/-- the one that counts -/
def chM (a b : ByteArray) : Mt := if (standM a 0).tx < (standM b 1).tx then standM b 1 else standM a 0
def chE (a b : ByteArray) : Int := if (chM a b).same Mt.zero = true then 25 else 0

theorem bks_two (w : World) (m n : Mt) (w1 : World) (hb : Below (w.alloc (.cells m.cells 23)).heap.size (w.alloc (.cells m.cells 23)) w1) :
    Bks w [(w1.heap.size, n.cells, 23), (w.heap.size, m.cells, 23)] (w1.alloc (.cells n.cells 23)) := (((Bks.nil w).new m.cells 23).over hb).new n.cells 23

set_option maxHeartbeats 4000000 in
theorem standing_any (w : World) (b : ByteArray) (c : Int) :
    Calls Try.prog 30 #[.string b, .int .i64 c] w fun r w' => r = .returned (standM b c).v ∧ Below w.heap.size w w' := by
  have HR := fun W => Lib.hid (mread_any W b)
  by_cases h : readR b = 0
  · rw [h] at HR
    obtain ⟨m, hm, hb, e⟩ := meta_there h
    have hr := m.ok_range hm
    have HS := fun W => Lib.hid (slot_any W m.tx (by omega) (by omega))
    have HM := Lib.hid (fun w1 hb => bks_two w Mt.zero m w1 hb)
    have HQ := Lib.hid (show ∀ w1, _ → _ ∧ _ ∧ _ from fun w1 hb => (have q := HM.out w1 hb; And.intro (cells4 (q.at_ 0 rfl)) (And.intro (cells4 (q.at_ 1 rfl)) (free4 (q.at_ 1 rfl)))))
    unfold standM
    rw [e] at HR ⊢
    by_cases hc : m.tx % 2 = c
    · rw [if_pos ⟨h, hc⟩]
      have k : (m.tx % 2 != c) = false := by simp; omega
      clear h hm hb e hr hc
      obtain ⟨tx, root, free, pages⟩ := m
      unfold Mt.v Mt.cells Mt.zero at *
      go_enter Try.func30, Try.ntmps30
      go_wp2_with (first
        | (go_at_call 13; (with_reducible refine (HR _).out.mono ?_); rintro e1 w1 ⟨rfl, hb1⟩; obtain ⟨⟨a0, a1, a2, a3⟩, ⟨c0, c1, c2, c3⟩, f0, f1, f2, f3⟩ := HQ.out _ hb1)
        | (go_at_call 12; (with_reducible refine (HS _).out.mono ?_); rintro e2 w2 ⟨rfl, rfl⟩))
      obtain ⟨q1, q2⟩ := (HM.out _ hb1).fill 1 rfl (.int .i64 tx) (.int .i64 root) (.int .i64 free) (.int .i64 pages)
      exact bodyPost_ret (meta_one rfl _ _ w.heap.size _ rfl q1 rfl) rfl ⟨rfl, q2⟩
    · rw [if_neg (fun k => hc k.2)]
      have k : (m.tx % 2 != c) = true := by simp; omega
      clear h hm hb e hr hc
      obtain ⟨tx, root, free, pages⟩ := m
      unfold Mt.v Mt.cells Mt.zero at *
      go_enter Try.func30, Try.ntmps30
      go_wp2_with (first
        | (go_at_call 13; (with_reducible refine (HR _).out.mono ?_); rintro e1 w1 ⟨rfl, hb1⟩; obtain ⟨⟨a0, a1, a2, a3⟩, ⟨c0, c1, c2, c3⟩, f0, f1, f2, f3⟩ := HQ.out _ hb1)
        | (go_at_call 12; (with_reducible refine (HS _).out.mono ?_); rintro e2 w2 ⟨rfl, rfl⟩))
      obtain ⟨q1, q2⟩ := (HM.out _ hb1).fill 1 rfl (.int .i64 0) (.int .i64 0) (.int .i64 0) (.int .i64 0)
      exact bodyPost_ret (meta_one rfl _ _ w.heap.size _ rfl q1 rfl) rfl ⟨rfl, q2⟩
  · have e : standM b c = Mt.zero := if_neg (fun k => h k.1)
    rw [e]
    rw [meta_none h] at HR
    have k : (readR b != 0) = true := by simpa using h
    generalize readR b = E at *
    have HM := Lib.hid (fun w1 hb => bks_two w Mt.zero Mt.zero w1 hb)
    have HQ := Lib.hid (show ∀ w1, _ → _ ∧ _ ∧ _ from fun w1 hb => (have q := HM.out w1 hb; And.intro (cells4 (q.at_ 0 rfl)) (And.intro (cells4 (q.at_ 1 rfl)) (free4 (q.at_ 1 rfl)))))
    clear h e
    unfold Mt.v Mt.cells Mt.zero at *
    go_enter Try.func30, Try.ntmps30
    go_wp2_with (first
      | (go_at_call 13; (with_reducible refine (HR _).out.mono ?_); rintro e1 w1 ⟨rfl, hb1⟩; obtain ⟨⟨a0, a1, a2, a3⟩, ⟨c0, c1, c2, c3⟩, f0, f1, f2, f3⟩ := HQ.out _ hb1))
    obtain ⟨q1, q2⟩ := (HM.out _ hb1).fill 1 rfl (.int .i64 0) (.int .i64 0) (.int .i64 0) (.int .i64 0)
    exact bodyPost_ret (meta_one rfl _ _ w.heap.size _ rfl q1 rfl) rfl ⟨rfl, q2⟩

theorem first_any (w : World) :
    Calls Try.prog 19 #[] w fun r w' => r = .returned (Mt.mk 1 0 0 2).v ∧ Below w.heap.size w w' := by
  have q := (Bks.nil w).new (Mt.mk 1 0 0 2).cells 23
  have HQ := Lib.hid (q.at_ 0 rfl)
  have HB := Lib.hid q.below
  clear q
  unfold Mt.v Mt.cells at *
  go_enter Try.func19, Try.ntmps19
  go_wp2
  exact bodyPost_ret (meta_one rfl _ _ w.heap.size _ rfl HQ.out rfl) rfl ⟨rfl, HB.out⟩

/-- three metas: the result's block, the one that counts, the other -/
theorem bks_three (w : World) (x y : Mt) (w1 w2 : World) (h1 : Below (w.alloc (.cells Mt.zero.cells 23)).heap.size (w.alloc (.cells Mt.zero.cells 23)) w1) (h2 : Below (w1.alloc (.cells x.cells 23)).heap.size (w1.alloc (.cells x.cells 23)) w2) :
    Bks w [(w2.heap.size, y.cells, 23), (w1.heap.size, x.cells, 23), (w.heap.size, Mt.zero.cells, 23)] (w2.alloc (.cells y.cells 23)) :=
  ((bks_two w Mt.zero x w1 h1).over h2).new _ _
/-- the one that counts is filled anew, the result's block stays -/
theorem bks_over {w w2 : World} {a1 a2 : Nat} {x y : Mt} (h : Bks w [(a2, y.cells, 23), (a1, x.cells, 23), (w.heap.size, Mt.zero.cells, 23)] w2) (hne : a1 ≠ w.heap.size) :
    Bks w [(a1, y.cells, 23), (w.heap.size, Mt.zero.cells, 23)] ((((w2.setCell ⟨a1, 0, none⟩ (.int .i64 y.tx)).setCell ⟨a1, 1, none⟩ (.int .i64 y.root)).setCell ⟨a1, 2, none⟩ (.int .i64 y.free)).setCell ⟨a1, 3, none⟩ (.int .i64 y.pages)) := by
  obtain ⟨q1, q2⟩ := h.fill 1 rfl (.int .i64 y.tx) (.int .i64 y.root) (.int .i64 y.free) (.int .i64 y.pages)
  refine ⟨fun z hz => ?_, q2⟩
  rcases List.mem_cons.1 hz with rfl | hz
  · exact ⟨q1, h.lo 1 rfl⟩
  · rcases List.mem_cons.1 hz with rfl | hz
    · exact ⟨by rw [Below.heap_setCell _ _ _ _ hne.symm, Below.heap_setCell _ _ _ _ hne.symm, Below.heap_setCell _ _ _ _ hne.symm, Below.heap_setCell _ _ _ _ hne.symm]; exact h.at_ 2 rfl, h.lo 2 rfl⟩
    · exact (List.not_mem_nil hz).elim
theorem below_ne {w w1 : World} {m : Mt} (h1 : Below (w.alloc (.cells m.cells 23)).heap.size (w.alloc (.cells m.cells 23)) w1) : w1.heap.size ≠ w.heap.size := by
  have := h1.size
  simp at this
  omega

set_option maxHeartbeats 4000000 in
theorem choose_any (w : World) (a b : ByteArray) :
    Calls Try.prog 15 #[.string a, .string b] w fun r w' => r = .returned (.tuple #[(chM a b).v, .int .i64 (chE a b)]) ∧ Below w.heap.size w w' := by
  have HA := fun W => Lib.hid (standing_any W a 0)
  have HB := fun W => Lib.hid (standing_any W b 1)
  unfold chE chM
  have EX := fun W => meta_eql W (standM a 0) Mt.zero
  have EY := fun W => meta_eql W (standM b 1) Mt.zero
  have SX : ∀ x : Mt, x.same Mt.zero = true → x = Mt.zero := fun x => Mt.same_eq
  generalize standM a 0 = x at *
  generalize standM b 1 = y at *
  have HM := Lib.hid (fun w1 w2 h1 h2 => bks_three w x y w1 w2 h1 h2)
  have HO := Lib.hid (fun w1 w2 h1 h2 => bks_over (HM.out w1 w2 h1 h2) (below_ne h1))
  have HD := Lib.hid (fun w1 h1 => bks_two w Mt.zero x w1 h1)
  have HQ := Lib.hid (show ∀ w1 w2, _ → _ → _ ∧ _ ∧ _ ∧ _ ∧ _ from fun w1 w2 h1 h2 => (have q := HM.out w1 w2 h1 h2; And.intro (cells4 (q.at_ 0 rfl)) (And.intro (cells4 (q.at_ 1 rfl)) (And.intro (free4 (q.at_ 1 rfl)) (And.intro (cells4 (q.at_ 2 rfl)) (free4 (q.at_ 2 rfl)))))))
  have HP := Lib.hid (show ∀ w1 w2, _ → _ → _ ∧ _ ∧ _ from fun w1 w2 h1 h2 => (have q := HO.out w1 w2 h1 h2; And.intro (cells4 (q.at_ 0 rfl)) (And.intro (cells4 (q.at_ 1 rfl)) (free4 (q.at_ 1 rfl)))))
  by_cases hc : x.tx < y.tx
  · have k : decide (x.tx < y.tx) = true := decide_eq_true hc
    rw [if_pos hc]
    cases hs : y.same Mt.zero
    · rw [hs] at EY
      rw [if_neg (by decide)]
      clear hs hc EX SX HD
      obtain ⟨x0, x1, x2, x3⟩ := x
      obtain ⟨y0, y1, y2, y3⟩ := y
      unfold Mt.v Mt.cells Mt.zero at *
      go_enter Try.func15, Try.ntmps15
      go_wp2_with (first
        | (go_at_call 30; (with_reducible refine (HA _).out.mono ?_); rintro e1 w1 ⟨rfl, hb1⟩)
        | (go_at_call 30; (with_reducible refine (HB _).out.mono ?_); rintro e2 w2 ⟨rfl, hb2⟩; obtain ⟨⟨a0, a1, a2, a3⟩, ⟨c0, c1, c2, c3⟩, ⟨f0, f1, f2, f3⟩, ⟨d0, d1, d2, d3⟩, g0, g1, g2, g3⟩ := HQ.out _ _ hb1 hb2; obtain ⟨⟨l0, l1, l2, l3⟩, ⟨m0, m1, m2, m3⟩, n0, n1, n2, n3⟩ := HP.out _ _ hb1 hb2))
      obtain ⟨q1, q2⟩ := (HO.out _ _ hb1 hb2).fill 1 rfl (.int .i64 y0) (.int .i64 y1) (.int .i64 y2) (.int .i64 y3)
      exact bodyPost_ret (meta_result rfl _ _ w.heap.size _ rfl q1 rfl) rfl ⟨rfl, q2⟩
    · rw [hs] at EY
      rw [if_pos rfl]
      have ey := SX y hs
      subst ey
      clear hs hc EX SX HD
      obtain ⟨x0, x1, x2, x3⟩ := x
      unfold Mt.v Mt.cells Mt.zero at *
      go_enter Try.func15, Try.ntmps15
      go_wp2_with (first
        | (go_at_call 30; (with_reducible refine (HA _).out.mono ?_); rintro e1 w1 ⟨rfl, hb1⟩)
        | (go_at_call 30; (with_reducible refine (HB _).out.mono ?_); rintro e2 w2 ⟨rfl, hb2⟩; obtain ⟨⟨a0, a1, a2, a3⟩, ⟨c0, c1, c2, c3⟩, ⟨f0, f1, f2, f3⟩, ⟨d0, d1, d2, d3⟩, g0, g1, g2, g3⟩ := HQ.out _ _ hb1 hb2; obtain ⟨⟨l0, l1, l2, l3⟩, ⟨m0, m1, m2, m3⟩, n0, n1, n2, n3⟩ := HP.out _ _ hb1 hb2))
      obtain ⟨q1, q2⟩ := (HO.out _ _ hb1 hb2).fill 1 rfl (.int .i64 0) (.int .i64 0) (.int .i64 0) (.int .i64 0)
      exact bodyPost_ret (meta_result rfl _ _ w.heap.size _ rfl q1 rfl) rfl ⟨rfl, q2⟩
  · have k : decide (x.tx < y.tx) = false := decide_eq_false hc
    rw [if_neg hc]
    cases hs : x.same Mt.zero
    · rw [hs] at EX
      rw [if_neg (by decide)]
      clear hs hc EY SX HD
      obtain ⟨x0, x1, x2, x3⟩ := x
      obtain ⟨y0, y1, y2, y3⟩ := y
      unfold Mt.v Mt.cells Mt.zero at *
      go_enter Try.func15, Try.ntmps15
      go_wp2_with (first
        | (go_at_call 30; (with_reducible refine (HA _).out.mono ?_); rintro e1 w1 ⟨rfl, hb1⟩)
        | (go_at_call 30; (with_reducible refine (HB _).out.mono ?_); rintro e2 w2 ⟨rfl, hb2⟩; obtain ⟨⟨a0, a1, a2, a3⟩, ⟨c0, c1, c2, c3⟩, ⟨f0, f1, f2, f3⟩, ⟨d0, d1, d2, d3⟩, g0, g1, g2, g3⟩ := HQ.out _ _ hb1 hb2))
      obtain ⟨q1, q2⟩ := (HM.out _ _ hb1 hb2).fill 2 rfl (.int .i64 x0) (.int .i64 x1) (.int .i64 x2) (.int .i64 x3)
      exact bodyPost_ret (meta_result rfl _ _ w.heap.size _ rfl q1 rfl) rfl ⟨rfl, q2⟩
    · rw [hs] at EX
      rw [if_pos rfl]
      have ex := SX x hs
      subst ex
      clear hs hc EY SX HD
      obtain ⟨y0, y1, y2, y3⟩ := y
      unfold Mt.v Mt.cells Mt.zero at *
      go_enter Try.func15, Try.ntmps15
      go_wp2_with (first
        | (go_at_call 30; (with_reducible refine (HA _).out.mono ?_); rintro e1 w1 ⟨rfl, hb1⟩)
        | (go_at_call 30; (with_reducible refine (HB _).out.mono ?_); rintro e2 w2 ⟨rfl, hb2⟩; obtain ⟨⟨a0, a1, a2, a3⟩, ⟨c0, c1, c2, c3⟩, ⟨f0, f1, f2, f3⟩, ⟨d0, d1, d2, d3⟩, g0, g1, g2, g3⟩ := HQ.out _ _ hb1 hb2))
      obtain ⟨q1, q2⟩ := (HM.out _ _ hb1 hb2).fill 2 rfl (.int .i64 0) (.int .i64 0) (.int .i64 0) (.int .i64 0)
      exact bodyPost_ret (meta_result rfl _ _ w.heap.size _ rfl q1 rfl) rfl ⟨rfl, q2⟩

end Go.Proofs.Ytnmklhajpcnkoaa.P6
