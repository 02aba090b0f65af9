/-
  Texts of the proof of SaidNone8, side by side: Mt12, LawNone8, Args5.
-/
import Derived.Test.YtbkngnjkaledlaaGreatMn49
import Derived.Test.YtbkngnjkaledlaaGreatMn43
import Derived.Test.YtbkngnjkaledlaaGreatMn47
import Derived.Test.YtbkngnjkaledlaaGreatMn40
import Derived.Lib.SmallJoins
import Derived.OpenShut
/-
  Package meta's standing, Choose and First, by contracts.
-/
namespace Go.Proofs.YtbkngnjkaledlaaGreat.P6
open Go Go.RowKit Go.Lib Go.Proofs.YtbkngnjkaledlaaGreat.P0 Go.Proofs.YtbkngnjkaledlaaGreat.P2 Go.Proofs.YtbkngnjkaledlaaGreat.P5

/-- the meta of the sector at a place -/
def standM (b : ByteArray) (c : Int) : Mt := if readR b = 0 ∧ (readM b).tx % 2 = c then readM b else Mt.zero
/-- the one that counts -/
def chM (a b : ByteArray) : Mt := if (standM a 0).tx < (standM b 1).tx then standM b 1 else standM a 0
def chE (a b : ByteArray) : Int := if (chM a b).same Mt.zero = true then 25 else 0

theorem bks_two (w : World) (m n : Mt) (w1 : World) (hb : Below (w.alloc (.cells m.cells 41)).heap.size (w.alloc (.cells m.cells 41)) w1) :
    Bks w [(w1.heap.size, n.cells, 41), (w.heap.size, m.cells, 41)] (w1.alloc (.cells n.cells 41)) := (((Bks.nil w).new m.cells 41).over hb).new n.cells 41

set_option maxHeartbeats 4000000 in
theorem standing_any (w : World) (b : ByteArray) (c : Int) :
    Calls Tryz.prog 108 #[.string b, .int .i64 c] w fun r w' => r = .returned (standM b c).v ∧ Below w.heap.size w w' := by
  have HR := fun W => Lib.hid (mread_any W b)
  by_cases h : readR b = 0
  · rw [h] at HR
    obtain ⟨m, hm, hb, e⟩ := meta_there h
    have hr := m.ok_range hm
    have HS := fun W => Lib.hid (slot_any W m.tx (by omega) (by omega))
    have HM := Lib.hid (fun w1 hb => bks_two w Mt.zero m w1 hb)
    have HQ := Lib.hid (show ∀ w1, _ → _ ∧ _ ∧ _ from fun w1 hb => (have q := HM.out w1 hb; And.intro (cells4 (q.at_ 0 rfl)) (And.intro (cells4 (q.at_ 1 rfl)) (free4 (q.at_ 1 rfl)))))
    unfold standM
    rw [e] at HR ⊢
    by_cases hc : m.tx % 2 = c
    · rw [if_pos ⟨h, hc⟩]
      have k : (m.tx % 2 != c) = false := by simp; omega
      clear h hm hb e hr hc
      obtain ⟨tx, root, free, pages⟩ := m
      unfold Mt.v Mt.cells Mt.zero at *
      go_enter Tryz.func108, Tryz.ntmps108
      go_wp2_with (first
        | (go_at_call 140; (with_reducible refine (HR _).out.mono ?_); rintro e1 w1 ⟨rfl, hb1⟩; obtain ⟨⟨a0, a1, a2, a3⟩, ⟨c0, c1, c2, c3⟩, f0, f1, f2, f3⟩ := HQ.out _ hb1)
        | (go_at_call 42; (with_reducible refine (HS _).out.mono ?_); rintro e2 w2 ⟨rfl, rfl⟩))
      obtain ⟨q1, q2⟩ := (HM.out _ hb1).fill 1 rfl (.int .i64 tx) (.int .i64 root) (.int .i64 free) (.int .i64 pages)
      exact bodyPost_ret (meta_one rfl _ _ w.heap.size _ rfl q1 rfl) rfl ⟨rfl, q2⟩
    · rw [if_neg (fun k => hc k.2)]
      have k : (m.tx % 2 != c) = true := by simp; omega
      clear h hm hb e hr hc
      obtain ⟨tx, root, free, pages⟩ := m
      unfold Mt.v Mt.cells Mt.zero at *
      go_enter Tryz.func108, Tryz.ntmps108
      go_wp2_with (first
        | (go_at_call 140; (with_reducible refine (HR _).out.mono ?_); rintro e1 w1 ⟨rfl, hb1⟩; obtain ⟨⟨a0, a1, a2, a3⟩, ⟨c0, c1, c2, c3⟩, f0, f1, f2, f3⟩ := HQ.out _ hb1)
        | (go_at_call 42; (with_reducible refine (HS _).out.mono ?_); rintro e2 w2 ⟨rfl, rfl⟩))
      obtain ⟨q1, q2⟩ := (HM.out _ hb1).fill 1 rfl (.int .i64 0) (.int .i64 0) (.int .i64 0) (.int .i64 0)
      exact bodyPost_ret (meta_one rfl _ _ w.heap.size _ rfl q1 rfl) rfl ⟨rfl, q2⟩
  · have e : standM b c = Mt.zero := if_neg (fun k => h k.1)
    rw [e]
    rw [meta_none h] at HR
    have k : (readR b != 0) = true := by simpa using h
    generalize readR b = E at *
    have HM := Lib.hid (fun w1 hb => bks_two w Mt.zero Mt.zero w1 hb)
    have HQ := Lib.hid (show ∀ w1, _ → _ ∧ _ ∧ _ from fun w1 hb => (have q := HM.out w1 hb; And.intro (cells4 (q.at_ 0 rfl)) (And.intro (cells4 (q.at_ 1 rfl)) (free4 (q.at_ 1 rfl)))))
    clear h e
    unfold Mt.v Mt.cells Mt.zero at *
    go_enter Tryz.func108, Tryz.ntmps108
    go_wp2_with (first
      | (go_at_call 140; (with_reducible refine (HR _).out.mono ?_); rintro e1 w1 ⟨rfl, hb1⟩; obtain ⟨⟨a0, a1, a2, a3⟩, ⟨c0, c1, c2, c3⟩, f0, f1, f2, f3⟩ := HQ.out _ hb1))
    obtain ⟨q1, q2⟩ := (HM.out _ hb1).fill 1 rfl (.int .i64 0) (.int .i64 0) (.int .i64 0) (.int .i64 0)
    exact bodyPost_ret (meta_one rfl _ _ w.heap.size _ rfl q1 rfl) rfl ⟨rfl, q2⟩

theorem first_any (w : World) :
    Calls Tryz.prog 26 #[] w fun r w' => r = .returned (Mt.mk 1 0 0 2).v ∧ Below w.heap.size w w' := by
  have q := (Bks.nil w).new (Mt.mk 1 0 0 2).cells 41
  have HQ := Lib.hid (q.at_ 0 rfl)
  have HB := Lib.hid q.below
  clear q
  unfold Mt.v Mt.cells at *
  go_enter Tryz.func26, Tryz.ntmps26
  go_wp2
  exact bodyPost_ret (meta_one rfl _ _ w.heap.size _ rfl HQ.out rfl) rfl ⟨rfl, HB.out⟩

/-- three metas: the result's block, the one that counts, the other -/
theorem bks_three (w : World) (x y : Mt) (w1 w2 : World) (h1 : Below (w.alloc (.cells Mt.zero.cells 41)).heap.size (w.alloc (.cells Mt.zero.cells 41)) w1) (h2 : Below (w1.alloc (.cells x.cells 41)).heap.size (w1.alloc (.cells x.cells 41)) w2) :
    Bks w [(w2.heap.size, y.cells, 41), (w1.heap.size, x.cells, 41), (w.heap.size, Mt.zero.cells, 41)] (w2.alloc (.cells y.cells 41)) :=
  ((bks_two w Mt.zero x w1 h1).over h2).new _ _
/-- the one that counts is filled anew, the result's block stays -/
theorem bks_over {w w2 : World} {a1 a2 : Nat} {x y : Mt} (h : Bks w [(a2, y.cells, 41), (a1, x.cells, 41), (w.heap.size, Mt.zero.cells, 41)] w2) (hne : a1 ≠ w.heap.size) :
    Bks w [(a1, y.cells, 41), (w.heap.size, Mt.zero.cells, 41)] ((((w2.setCell ⟨a1, 0, none⟩ (.int .i64 y.tx)).setCell ⟨a1, 1, none⟩ (.int .i64 y.root)).setCell ⟨a1, 2, none⟩ (.int .i64 y.free)).setCell ⟨a1, 3, none⟩ (.int .i64 y.pages)) := by
  obtain ⟨q1, q2⟩ := h.fill 1 rfl (.int .i64 y.tx) (.int .i64 y.root) (.int .i64 y.free) (.int .i64 y.pages)
  refine ⟨fun z hz => ?_, q2⟩
  rcases List.mem_cons.1 hz with rfl | hz
  · exact ⟨q1, h.lo 1 rfl⟩
  · rcases List.mem_cons.1 hz with rfl | hz
    · exact ⟨by rw [Below.heap_setCell _ _ _ _ hne.symm, Below.heap_setCell _ _ _ _ hne.symm, Below.heap_setCell _ _ _ _ hne.symm, Below.heap_setCell _ _ _ _ hne.symm]; exact h.at_ 2 rfl, h.lo 2 rfl⟩
    · exact (List.not_mem_nil hz).elim
theorem below_ne {w w1 : World} {m : Mt} (h1 : Below (w.alloc (.cells m.cells 41)).heap.size (w.alloc (.cells m.cells 41)) w1) : w1.heap.size ≠ w.heap.size := by
  have := h1.size
  simp at this
  omega

set_option maxHeartbeats 4000000 in
theorem choose_any (w : World) (a b : ByteArray) :
    Calls Tryz.prog 70 #[.string a, .string b] w fun r w' => r = .returned (.tuple #[(chM a b).v, .int .i64 (chE a b)]) ∧ Below w.heap.size w w' := by
  have HA := fun W => Lib.hid (standing_any W a 0)
  have HB := fun W => Lib.hid (standing_any W b 1)
  unfold chE chM
  have EX := fun W => meta_eql W (standM a 0) Mt.zero
  have EY := fun W => meta_eql W (standM b 1) Mt.zero
  have SX : ∀ x : Mt, x.same Mt.zero = true → x = Mt.zero := fun x => Mt.same_eq
  generalize standM a 0 = x at *
  generalize standM b 1 = y at *
  have HM := Lib.hid (fun w1 w2 h1 h2 => bks_three w x y w1 w2 h1 h2)
  have HO := Lib.hid (fun w1 w2 h1 h2 => bks_over (HM.out w1 w2 h1 h2) (below_ne h1))
  have HD := Lib.hid (fun w1 h1 => bks_two w Mt.zero x w1 h1)
  have HQ := Lib.hid (show ∀ w1 w2, _ → _ → _ ∧ _ ∧ _ ∧ _ ∧ _ from fun w1 w2 h1 h2 => (have q := HM.out w1 w2 h1 h2; And.intro (cells4 (q.at_ 0 rfl)) (And.intro (cells4 (q.at_ 1 rfl)) (And.intro (free4 (q.at_ 1 rfl)) (And.intro (cells4 (q.at_ 2 rfl)) (free4 (q.at_ 2 rfl)))))))
  have HP := Lib.hid (show ∀ w1 w2, _ → _ → _ ∧ _ ∧ _ from fun w1 w2 h1 h2 => (have q := HO.out w1 w2 h1 h2; And.intro (cells4 (q.at_ 0 rfl)) (And.intro (cells4 (q.at_ 1 rfl)) (free4 (q.at_ 1 rfl)))))
  by_cases hc : x.tx < y.tx
  · have k : decide (x.tx < y.tx) = true := decide_eq_true hc
    rw [if_pos hc]
    cases hs : y.same Mt.zero
    · rw [hs] at EY
      rw [if_neg (by decide)]
      clear hs hc EX SX HD
      obtain ⟨x0, x1, x2, x3⟩ := x
      obtain ⟨y0, y1, y2, y3⟩ := y
      unfold Mt.v Mt.cells Mt.zero at *
      go_enter Tryz.func70, Tryz.ntmps70
      go_wp2_with (first
        | (go_at_call 108; (with_reducible refine (HA _).out.mono ?_); rintro e1 w1 ⟨rfl, hb1⟩)
        | (go_at_call 108; (with_reducible refine (HB _).out.mono ?_); rintro e2 w2 ⟨rfl, hb2⟩; obtain ⟨⟨a0, a1, a2, a3⟩, ⟨c0, c1, c2, c3⟩, ⟨f0, f1, f2, f3⟩, ⟨d0, d1, d2, d3⟩, g0, g1, g2, g3⟩ := HQ.out _ _ hb1 hb2; obtain ⟨⟨l0, l1, l2, l3⟩, ⟨m0, m1, m2, m3⟩, n0, n1, n2, n3⟩ := HP.out _ _ hb1 hb2))
      obtain ⟨q1, q2⟩ := (HO.out _ _ hb1 hb2).fill 1 rfl (.int .i64 y0) (.int .i64 y1) (.int .i64 y2) (.int .i64 y3)
      exact bodyPost_ret (meta_result rfl _ _ w.heap.size _ rfl q1 rfl) rfl ⟨rfl, q2⟩
    · rw [hs] at EY
      rw [if_pos rfl]
      have ey := SX y hs
      subst ey
      clear hs hc EX SX HD
      obtain ⟨x0, x1, x2, x3⟩ := x
      unfold Mt.v Mt.cells Mt.zero at *
      go_enter Tryz.func70, Tryz.ntmps70
      go_wp2_with (first
        | (go_at_call 108; (with_reducible refine (HA _).out.mono ?_); rintro e1 w1 ⟨rfl, hb1⟩)
        | (go_at_call 108; (with_reducible refine (HB _).out.mono ?_); rintro e2 w2 ⟨rfl, hb2⟩; obtain ⟨⟨a0, a1, a2, a3⟩, ⟨c0, c1, c2, c3⟩, ⟨f0, f1, f2, f3⟩, ⟨d0, d1, d2, d3⟩, g0, g1, g2, g3⟩ := HQ.out _ _ hb1 hb2; obtain ⟨⟨l0, l1, l2, l3⟩, ⟨m0, m1, m2, m3⟩, n0, n1, n2, n3⟩ := HP.out _ _ hb1 hb2))
      obtain ⟨q1, q2⟩ := (HO.out _ _ hb1 hb2).fill 1 rfl (.int .i64 0) (.int .i64 0) (.int .i64 0) (.int .i64 0)
      exact bodyPost_ret (meta_result rfl _ _ w.heap.size _ rfl q1 rfl) rfl ⟨rfl, q2⟩
  · have k : decide (x.tx < y.tx) = false := decide_eq_false hc
    rw [if_neg hc]
    cases hs : x.same Mt.zero
    · rw [hs] at EX
      rw [if_neg (by decide)]
      clear hs hc EY SX HD
      obtain ⟨x0, x1, x2, x3⟩ := x
      obtain ⟨y0, y1, y2, y3⟩ := y
      unfold Mt.v Mt.cells Mt.zero at *
      go_enter Tryz.func70, Tryz.ntmps70
      go_wp2_with (first
        | (go_at_call 108; (with_reducible refine (HA _).out.mono ?_); rintro e1 w1 ⟨rfl, hb1⟩)
        | (go_at_call 108; (with_reducible refine (HB _).out.mono ?_); rintro e2 w2 ⟨rfl, hb2⟩; obtain ⟨⟨a0, a1, a2, a3⟩, ⟨c0, c1, c2, c3⟩, ⟨f0, f1, f2, f3⟩, ⟨d0, d1, d2, d3⟩, g0, g1, g2, g3⟩ := HQ.out _ _ hb1 hb2))
      obtain ⟨q1, q2⟩ := (HM.out _ _ hb1 hb2).fill 2 rfl (.int .i64 x0) (.int .i64 x1) (.int .i64 x2) (.int .i64 x3)
      exact bodyPost_ret (meta_result rfl _ _ w.heap.size _ rfl q1 rfl) rfl ⟨rfl, q2⟩
    · rw [hs] at EX
      rw [if_pos rfl]
      have ex := SX x hs
      subst ex
      clear hs hc EY SX HD
      obtain ⟨y0, y1, y2, y3⟩ := y
      unfold Mt.v Mt.cells Mt.zero at *
      go_enter Tryz.func70, Tryz.ntmps70
      go_wp2_with (first
        | (go_at_call 108; (with_reducible refine (HA _).out.mono ?_); rintro e1 w1 ⟨rfl, hb1⟩)
        | (go_at_call 108; (with_reducible refine (HB _).out.mono ?_); rintro e2 w2 ⟨rfl, hb2⟩; obtain ⟨⟨a0, a1, a2, a3⟩, ⟨c0, c1, c2, c3⟩, ⟨f0, f1, f2, f3⟩, ⟨d0, d1, d2, d3⟩, g0, g1, g2, g3⟩ := HQ.out _ _ hb1 hb2))
      obtain ⟨q1, q2⟩ := (HM.out _ _ hb1 hb2).fill 2 rfl (.int .i64 0) (.int .i64 0) (.int .i64 0) (.int .i64 0)
      exact bodyPost_ret (meta_result rfl _ _ w.heap.size _ rfl q1 rfl) rfl ⟨rfl, q2⟩

end Go.Proofs.YtbkngnjkaledlaaGreat.P6

/-
  P802: of a nil store; of no disk, and of one without power: the law's walk.
-/
namespace Go.Proofs.YtbkngnjkaledlaaGreat.P8
open Go Go.RowKit Go.Lib Go.Maps Go.ChangeMaps Go.MapKept Go.Proofs.YtbkngnjkaledlaaGreat.P3 Go.Proofs.YtbkngnjkaledlaaGreat.P4
open Go.Proofs.YtbkngnjkaledlaaGreat.P5 (Pg)
open Go.Proofs.YtbkngnjkaledlaaGreat.P6 (Mt first_any)

section
variable {w W : World}
/-- a page in its box, as the law has it -/
structure Box (w : World) (p : Pg) (W : World) : Prop where
  page : W.heap[w.heap.size]? = some (.cells #[.int .i64 p.k, .int .i64 p.id, .int .i64 p.tx, .string p.body] 47 (0, 0))
  below : Below w.heap.size w W
theorem Box.made (w : World) (p : Pg) : Box w p (w.alloc (.cells #[.int .i64 p.k, .int .i64 p.id, .int .i64 p.tx, .string p.body] 47)) := ⟨P3.new_at w _ _, P3.below_new w _⟩
theorem Box.over {p : Pg} {W' : World} (h : Box w p W) (hb : Below W.heap.size W W') : Box w p W' := ⟨P3.old_below h.page hb, thenBelow h.below hb⟩
theorem Box.cells {p : Pg} (h : Box w p W) : W.cell? ⟨w.heap.size, 0, none⟩ = some (.int .i64 p.k) ∧ W.cell? ⟨w.heap.size, 1, none⟩ = some (.int .i64 p.id) ∧ W.cell? ⟨w.heap.size, 2, none⟩ = some (.int .i64 p.tx) ∧ W.cell? ⟨w.heap.size, 3, none⟩ = some (.string p.body) :=
  ⟨by rw [P3.cell_at h.page]; rfl, by rw [P3.cell_at h.page]; rfl, by rw [P3.cell_at h.page]; rfl, by rw [P3.cell_at h.page]; rfl⟩
/-- the law behind its first lines -/
theorem none8_long (w : World) (s : ByteArray) (id : Int) (p : Pg) (h : 60 < s.size) : Calls Tryz.prog 4 #[.string s, .int .i64 id, .agg #[.int .i64 p.k, .int .i64 p.id, .int .i64 p.tx, .string p.body]] w fun e w' => e = .returned (.bool true) ∧ Below w.heap.size w w' := by
  have HA := Lib.hid (fun w => alive_any8 w)
  have HB := Lib.hid (Box.made w p)
  go_enter Tryz.func4, Tryz.ntmps4
  go_wp2_with (go_at_call 6; (with_reducible refine (HA.out _).mono ?_); rintro e w1 ⟨rfl, hb⟩; have HC := Lib.hid (HB.out.over hb); clear hb)
  go_ret
  exact ⟨rfl, HC.out.below⟩
theorem none8_body (w : World) (s : ByteArray) (id : Int) (p : Pg) (h : ¬ 60 < s.size) (h2 : 300 < p.body.size) : Calls Tryz.prog 4 #[.string s, .int .i64 id, .agg #[.int .i64 p.k, .int .i64 p.id, .int .i64 p.tx, .string p.body]] w fun e w' => e = .returned (.bool true) ∧ Below w.heap.size w w' := by
  have HA := Lib.hid (fun w => alive_any8 w)
  have HB := Lib.hid (Box.made w p)
  obtain ⟨c0, c1, c2, c3⟩ := HB.out.cells
  go_enter Tryz.func4, Tryz.ntmps4
  go_wp2_with (go_at_call 6; (with_reducible refine (HA.out _).mono ?_); rintro e w1 ⟨rfl, hb⟩; have HC := Lib.hid (HB.out.over hb); clear hb)
  go_ret
  exact ⟨rfl, HC.out.below⟩
/-- .. beside a disk -/
structure BoxQ (w : World) (p : Pg) (on : Bool) (W : World) (d : Nat) : Prop where
  box : Box w p W
  qd : ∃ a, QD on a W d 0 [] ∧ Box w p a
theorem BoxQ.made {p : Pg} (h : Box w p W) {W' : World} (hq : QD true W W' W.heap.size 0 []) : BoxQ w p true W' W.heap.size := ⟨h.over hq.fr, W, hq, h⟩
theorem BoxQ.crash {p : Pg} {d : Nat} (h : BoxQ w p true W d) : Calls Tryz.prog 25 #[.pointer (some ⟨d, 0, none⟩), .slice none 0 0] W fun e w' => e = .returned (.int .i64 0) ∧ BoxQ w p false w' d := by
  obtain ⟨hb, a, hq, ha⟩ := h
  refine hq.crash0.mono ?_
  rintro e w' ⟨rfl, q⟩
  exact ⟨rfl, ha.over q.fr, a, q, ha⟩
theorem BoxQ.open {p : Pg} {d : Nat} (h : BoxQ w p false W d) : Calls Tryz.prog 8 #[.pointer (some ⟨d, 0, none⟩), .string ⟨#[97]⟩] W fun e w' => e = .returned (.tuple #[.pointer none, .int .i64 14]) ∧ Box w p w' := by
  obtain ⟨hb, a, hq, ha⟩ := h
  refine (openOff hq _ (by decide) (by decide)).mono ?_
  rintro e w' ⟨rfl, q⟩
  exact ⟨rfl, hb.over q⟩
set_option maxRecDepth 100000 in
set_option maxHeartbeats 4000000 in
theorem none8_short (w : World) (s : ByteArray) (id : Int) (p : Pg) (h : ¬ 60 < s.size) (h2 : ¬ 300 < p.body.size) : Calls Tryz.prog 4 #[.string s, .int .i64 id, .agg #[.int .i64 p.k, .int .i64 p.id, .int .i64 p.tx, .string p.body]] w fun e w' => e = .returned (.bool true) ∧ Below w.heap.size w w' := by
  have HA := Lib.hid (fun w => alive_any8 w)
  have HB := Lib.hid (Box.made w p)
  obtain ⟨c0, c1, c2, c3⟩ := HB.out.cells
  have HG : Hid (∀ W, Calls Tryz.prog 17 #[.pointer none, .int .i64 id] W fun e w' => e = .returned (.tuple #[.agg #[.int .i64 0, .int .i64 0, .int .i64 0, .string ⟨#[]⟩], .int .i64 1]) ∧ Below W.heap.size W w') := fun W => get_nil W id
  have HM : Hid (∀ W, Calls Tryz.prog 19 #[.pointer none] W fun e w' => e = .returned (.tuple #[.agg #[.int .i64 0, .int .i64 0, .int .i64 0, .int .i64 0], .int .i64 1]) ∧ Below W.heap.size W w') := fun W => meta_nil W
  have HO : Hid (∀ W, Calls Tryz.prog 8 #[.pointer none, .string s] W fun e w' => e = .returned (.tuple #[.pointer none, .int .i64 1]) ∧ Below W.heap.size W w') := fun W => open_nil W s
  have HN := Lib.hid (fun w => qd_new w)
  have HF : Hid (∀ W, Calls Tryz.prog 26 #[] W fun e w' => e = .returned (.agg #[.int .i64 1, .int .i64 0, .int .i64 0, .int .i64 2]) ∧ Below W.heap.size W w') := fun W => first_any W
  have HSM : Hid (∀ W, Calls Tryz.prog 11 #[.pointer none, .agg #[.int .i64 1, .int .i64 0, .int .i64 0, .int .i64 2]] W fun e w' => e = .returned (.int .i64 1) ∧ Below W.heap.size W w') := fun W => setmeta_nil W ⟨1, 0, 0, 2⟩
  have HP := Lib.hid (fun W v => put_nil W v)
  go_enter Tryz.func4, Tryz.ntmps4
  go_wp2_with (first
    | (go_at_call 6; (with_reducible refine (HA.out _).mono ?_); rintro e w1 ⟨rfl, hb⟩; have HC := Lib.hid (HB.out.over hb); clear hb)
    | (go_at_call 17; (with_reducible refine (HG.out _).mono ?_); rintro e w2 ⟨rfl, hb⟩; have HD := Lib.hid ((HC.out.over hb).over (P3.below_new w2 (.cells #[.int .i64 0, .int .i64 0, .int .i64 0, .string ⟨#[]⟩] 47))); clear hb)
    | (go_at_call 19; (with_reducible refine (HM.out _).mono ?_); rintro e w3 ⟨rfl, hb⟩; have HE := Lib.hid ((HD.out.over hb).over (P3.below_new w3 (.cells #[.int .i64 0, .int .i64 0, .int .i64 0, .int .i64 0] 41))); clear hb)
    | (go_at_call 8; (with_reducible refine (HO.out _).mono ?_); rintro e w4 ⟨rfl, hb⟩; have HH := Lib.hid (HE.out.over hb); clear hb)
    | (go_at_call 7; (with_reducible refine (HN.out _).mono ?_); rintro e w5 ⟨rfl, hq⟩; have HQ := Lib.hid (BoxQ.made HH.out hq); clear hq)
    | (go_at_call 25; (with_reducible refine (HQ.out.crash).mono ?_); rintro e w6 ⟨rfl, hq⟩; have HR := Lib.hid hq; clear hq)
    | (go_at_call 8; (with_reducible refine (HR.out.open).mono ?_); rintro e w7 ⟨rfl, hq⟩; have HS := Lib.hid hq; obtain ⟨d0, d1, d2, d3⟩ := hq.cells; have HT := Lib.hid (hq.over (P3.below_new w7 (.cells #[.int .i64 p.k, .int .i64 p.id, .int .i64 p.tx, .string p.body] 47))); clear hq)
    | (go_at_call 9; (with_reducible refine (HP.out _ _).mono ?_); rintro e w8 ⟨rfl, hb⟩; have HU := Lib.hid (HT.out.over hb); clear hb)
    | (go_at_call 26; (with_reducible refine (HF.out _).mono ?_); rintro e w9 ⟨rfl, hb⟩; have HV := Lib.hid (HU.out.over hb); clear hb)
    | (go_at_call 11; (with_reducible refine (HSM.out _).mono ?_); rintro e w10 ⟨rfl, hb⟩; have HX := Lib.hid (HV.out.over hb); clear hb)
    | (go_at_call 14; (with_reducible refine (stsync_nil _).mono ?_); rintro e w11 ⟨rfl, rfl⟩)
    | (go_at_call 23; (with_reducible refine (stsize_nil _).mono ?_); rintro e w12 ⟨rfl, rfl⟩)
    | (go_at_call 22; (with_reducible refine (reads_nil _).mono ?_); rintro e w13 ⟨rfl, rfl⟩)
    | (go_at_call 27; (with_reducible refine (name_nil _).mono ?_); rintro e w14 ⟨rfl, rfl⟩))
  go_ret
  exact ⟨rfl, HX.out.below⟩
theorem none8_any (w : World) (s : ByteArray) (id : Int) (p : Pg) : Calls Tryz.prog 4 #[.string s, .int .i64 id, p.v] w fun e w' => e = .returned (.bool true) ∧ Below w.heap.size w w' := by
  by_cases h : 60 < s.size
  · exact none8_long w s id p h
  · by_cases h2 : 300 < p.body.size
    · exact none8_body w s id p h h2
    · exact none8_short w s id p h h2
end
end Go.Proofs.YtbkngnjkaledlaaGreat.P8

/-
  A page as an argument.
-/
namespace Go.Proofs.YtbkngnjkaledlaaGreat.P5
open Go Go.RowKit Go.Lib Go.WideShapes Go.ChangeShapes Go.ChangeAt

section
variable {H : Type} {enc : TypeId × Value → H} {w : World} {base : Nat} {sp : Nat → Bool} {held : Bool}
set_option maxRecDepth 100000 in
theorem page_open {r : Reach} {b0 : Nat} {v : Value} {d : DataW H} {p : List MemPlace} (hv : Value.okWide Tryz.prog w r b0 47 v) (h : DataW.Trod enc Tryz.prog w base sp held 47 v d p) : ∃ q : Pg, v = q.v := by
  obtain ⟨v0, v1, v2, v3, y0, y1, y2, y3, n, rfl, _, _, f0, f1, f2, f3⟩ := Go.Joins.open_agg4 Tryz.underlying47 (by kernel_rfl) (by kernel_rfl) hv h
  obtain ⟨k, g0, _, w0⟩ := DataW.trod_int Tryz.underlying3 f0
  obtain ⟨i, g1, _, w1⟩ := DataW.trod_int Tryz.underlying3 f1
  obtain ⟨t, g2, _, w2⟩ := DataW.trod_int Tryz.underlying3 f2
  obtain ⟨s, g3, _, w3⟩ := DataW.trod_string Tryz.underlying9 f3
  obtain rfl : v0 = .int .i64 k := by simpa using g0
  obtain rfl : v1 = .int .i64 i := by simpa using g1
  obtain rfl : v2 = .int .i64 t := by simpa using g2
  obtain rfl : v3 = .string s := by simpa using g3
  exact ⟨⟨k, i, t, s⟩, rfl⟩
end

end Go.Proofs.YtbkngnjkaledlaaGreat.P5
