/-
  Texts of the proof of SaidPlay8b.
-/
import Derived.Test.YtbkngnjkaledlaaGreatMp35
set_option maxHeartbeats 8000000
set_option maxRecDepth 100000
namespace Go.Proofs.YtbkngnjkaledlaaGreat.P6
open Go Go.RowKit Go.Lib P0 P2 P5
def standM (b : ByteArray) (c : Int) : Mt := if readR b = 0 ∧ (readM b).tx % 2 = c then readM b else Mt.zero
def chM (a b : ByteArray) : Mt := if (standM a 0).tx < (standM b 1).tx then standM b 1 else standM a 0
def chE (a b : ByteArray) : Int := if (chM a b).same Mt.zero = true then 25 else 0
theorem bks_two (w : World) (m n : Mt) (w1 : World) (hb : Below (w.alloc (.cells m.cells 41)).heap.size (w.alloc (.cells m.cells 41)) w1) :
  Bks w [(w1.heap.size, n.cells, 41), (w.heap.size, m.cells, 41)] (w1.alloc (.cells n.cells 41)) := (((Bks.nil w).new m.cells 41).over hb).new n.cells 41
theorem standing_any (w : World) (b : ByteArray) (c : Int) :
  Calls Tryz.prog 108 #[.string b, .int .i64 c] w fun r w' => r = .returned (standM b c).v ∧ Below w.heap.size w w' := by
 have HR := fun W => Lib.hid (mread_any W b)
 by_cases h : readR b = 0
 ·rw [h] at HR
  obtain ⟨m, hm, hb, e⟩ := meta_there h
  have hr := m.ok_range hm
  have HS := fun W => Lib.hid (slot_any W m.tx (by omega) (by omega))
  have HM := Lib.hid (fun w1 hb => bks_two w Mt.zero m w1 hb)
  have HQ := Lib.hid (show ∀ w1, _ → _ ∧ _ ∧ _ from fun w1 hb => (have q := HM.out w1 hb; And.intro (cells4 (q.at_ 0 rfl)) (And.intro (cells4 (q.at_ 1 rfl)) (free4 (q.at_ 1 rfl)))))
  unfold standM
  rw [e] at HR ⊢
  by_cases hc : m.tx % 2 = c
  ·rw [if_pos ⟨h, hc⟩]
   have k : (m.tx % 2 != c) = false := by simp; omega
   clear h hm hb e hr hc
   obtain ⟨tx, root, free, pages⟩ := m
   unfold Mt.v Mt.cells Mt.zero at *
   go_enter Tryz.func108, Tryz.ntmps108
   go_wp2_with (first
    | (go_at_call 140; (with_reducible refine (HR _).out.mono ?_); rintro e1 w1 ⟨rfl, hb1⟩; obtain ⟨⟨a0, a1, a2, a3⟩, ⟨c0, c1, c2, c3⟩, f0, f1, f2, f3⟩ := HQ.out _ hb1)
    | (go_at_call 42; (with_reducible refine (HS _).out.mono ?_); rintro e2 w2 ⟨rfl, rfl⟩))
   obtain ⟨q1, q2⟩ := (HM.out _ hb1).fill 1 rfl (.int .i64 tx) (.int .i64 root) (.int .i64 free) (.int .i64 pages)
   exact bodyPost_ret (meta_one rfl _ _ w.heap.size _ rfl q1 rfl) rfl ⟨rfl, q2⟩
  ·rw [if_neg (fun k => hc k.2)]
   have k : (m.tx % 2 != c) = true := by simp; omega
   clear h hm hb e hr hc
   obtain ⟨tx, root, free, pages⟩ := m
   unfold Mt.v Mt.cells Mt.zero at *
   go_enter Tryz.func108, Tryz.ntmps108
   go_wp2_with (first
    | (go_at_call 140; (with_reducible refine (HR _).out.mono ?_); rintro e1 w1 ⟨rfl, hb1⟩; obtain ⟨⟨a0, a1, a2, a3⟩, ⟨c0, c1, c2, c3⟩, f0, f1, f2, f3⟩ := HQ.out _ hb1)
    | (go_at_call 42; (with_reducible refine (HS _).out.mono ?_); rintro e2 w2 ⟨rfl, rfl⟩))
   obtain ⟨q1, q2⟩ := (HM.out _ hb1).fill 1 rfl (.int .i64 0) (.int .i64 0) (.int .i64 0) (.int .i64 0)
   exact bodyPost_ret (meta_one rfl _ _ w.heap.size _ rfl q1 rfl) rfl ⟨rfl, q2⟩
 ·have e : standM b c = Mt.zero := if_neg (fun k => h k.1)
  rw [e]
  rw [meta_none h] at HR
  have k : (readR b != 0) = true := by simpa using h
  generalize readR b = E at *
  have HM := Lib.hid (fun w1 hb => bks_two w Mt.zero Mt.zero w1 hb)
  have HQ := Lib.hid (show ∀ w1, _ → _ ∧ _ ∧ _ from fun w1 hb => (have q := HM.out w1 hb; And.intro (cells4 (q.at_ 0 rfl)) (And.intro (cells4 (q.at_ 1 rfl)) (free4 (q.at_ 1 rfl)))))
  clear h e
  unfold Mt.v Mt.cells Mt.zero at *
  go_enter Tryz.func108, Tryz.ntmps108
  go_wp2_with (first
   | (go_at_call 140; (with_reducible refine (HR _).out.mono ?_); rintro e1 w1 ⟨rfl, hb1⟩; obtain ⟨⟨a0, a1, a2, a3⟩, ⟨c0, c1, c2, c3⟩, f0, f1, f2, f3⟩ := HQ.out _ hb1))
  obtain ⟨q1, q2⟩ := (HM.out _ hb1).fill 1 rfl (.int .i64 0) (.int .i64 0) (.int .i64 0) (.int .i64 0)
  exact bodyPost_ret (meta_one rfl _ _ w.heap.size _ rfl q1 rfl) rfl ⟨rfl, q2⟩
theorem bks_three (w : World) (x y : Mt) (w1 w2 : World) (h1 : Below (w.alloc (.cells Mt.zero.cells 41)).heap.size (w.alloc (.cells Mt.zero.cells 41)) w1) (h2 : Below (w1.alloc (.cells x.cells 41)).heap.size (w1.alloc (.cells x.cells 41)) w2) :
  Bks w [(w2.heap.size, y.cells, 41), (w1.heap.size, x.cells, 41), (w.heap.size, Mt.zero.cells, 41)] (w2.alloc (.cells y.cells 41)) :=
 ((bks_two w Mt.zero x w1 h1).over h2).new _ _
theorem bks_over {w w2 : World} {a1 a2 : Nat} {x y : Mt} (h : Bks w [(a2, y.cells, 41), (a1, x.cells, 41), (w.heap.size, Mt.zero.cells, 41)] w2) (hne : a1 ≠ w.heap.size) :
  Bks w [(a1, y.cells, 41), (w.heap.size, Mt.zero.cells, 41)] ((((w2.setCell ⟨a1, 0, none⟩ (.int .i64 y.tx)).setCell ⟨a1, 1, none⟩ (.int .i64 y.root)).setCell ⟨a1, 2, none⟩ (.int .i64 y.free)).setCell ⟨a1, 3, none⟩ (.int .i64 y.pages)) := by
 obtain ⟨q1, q2⟩ := h.fill 1 rfl (.int .i64 y.tx) (.int .i64 y.root) (.int .i64 y.free) (.int .i64 y.pages)
 refine ⟨fun z hz => ?_, q2⟩
 rcases List.mem_cons.1 hz with rfl | hz
 ·exact ⟨q1, h.lo 1 rfl⟩
 ·rcases List.mem_cons.1 hz with rfl | hz
  ·exact ⟨by rw [Below.heap_setCell _ _ _ _ hne.symm, Below.heap_setCell _ _ _ _ hne.symm, Below.heap_setCell _ _ _ _ hne.symm, Below.heap_setCell _ _ _ _ hne.symm]; exact h.at_ 2 rfl, h.lo 2 rfl⟩
  ·exact (List.not_mem_nil hz).elim
theorem below_ne {w w1 : World} {m : Mt} (h1 : Below (w.alloc (.cells m.cells 41)).heap.size (w.alloc (.cells m.cells 41)) w1) : w1.heap.size ≠ w.heap.size := by
 have := h1.size
 simp at this
 omega
theorem choose_any (w : World) (a b : ByteArray) :
  Calls Tryz.prog 70 #[.string a, .string b] w fun r w' => r = .returned (.tuple #[(chM a b).v, .int .i64 (chE a b)]) ∧ Below w.heap.size w w' := by
 have HA := fun W => Lib.hid (standing_any W a 0)
 have HB := fun W => Lib.hid (standing_any W b 1)
 unfold chE chM
 have EX := fun W => meta_eql W (standM a 0) Mt.zero
 have EY := fun W => meta_eql W (standM b 1) Mt.zero
 have SX : ∀ x : Mt, x.same Mt.zero = true → x = Mt.zero := fun x => Mt.same_eq
 generalize standM a 0 = x at *
 generalize standM b 1 = y at *
 have HM := Lib.hid (fun w1 w2 h1 h2 => bks_three w x y w1 w2 h1 h2)
 have HO := Lib.hid (fun w1 w2 h1 h2 => bks_over (HM.out w1 w2 h1 h2) (below_ne h1))
 have HD := Lib.hid (fun w1 h1 => bks_two w Mt.zero x w1 h1)
 have HQ := Lib.hid (show ∀ w1 w2, _ → _ → _ ∧ _ ∧ _ ∧ _ ∧ _ from fun w1 w2 h1 h2 => (have q := HM.out w1 w2 h1 h2; And.intro (cells4 (q.at_ 0 rfl)) (And.intro (cells4 (q.at_ 1 rfl)) (And.intro (free4 (q.at_ 1 rfl)) (And.intro (cells4 (q.at_ 2 rfl)) (free4 (q.at_ 2 rfl)))))))
 have HP := Lib.hid (show ∀ w1 w2, _ → _ → _ ∧ _ ∧ _ from fun w1 w2 h1 h2 => (have q := HO.out w1 w2 h1 h2; And.intro (cells4 (q.at_ 0 rfl)) (And.intro (cells4 (q.at_ 1 rfl)) (free4 (q.at_ 1 rfl)))))
 by_cases hc : x.tx < y.tx
 ·have k : decide (x.tx < y.tx) = true := decide_eq_true hc
  rw [if_pos hc]
  cases hs : y.same Mt.zero
  ·rw [hs] at EY
   rw [if_neg (by decide)]
   clear hs hc EX SX HD
   obtain ⟨x0, x1, x2, x3⟩ := x
   obtain ⟨y0, y1, y2, y3⟩ := y
   unfold Mt.v Mt.cells Mt.zero at *
   go_enter Tryz.func70, Tryz.ntmps70
   go_wp2_with (first
    | (go_at_call 108; (with_reducible refine (HA _).out.mono ?_); rintro e1 w1 ⟨rfl, hb1⟩)
    | (go_at_call 108; (with_reducible refine (HB _).out.mono ?_); rintro e2 w2 ⟨rfl, hb2⟩; obtain ⟨⟨a0, a1, a2, a3⟩, ⟨c0, c1, c2, c3⟩, ⟨f0, f1, f2, f3⟩, ⟨d0, d1, d2, d3⟩, g0, g1, g2, g3⟩ := HQ.out _ _ hb1 hb2; obtain ⟨⟨l0, l1, l2, l3⟩, ⟨m0, m1, m2, m3⟩, n0, n1, n2, n3⟩ := HP.out _ _ hb1 hb2))
   obtain ⟨q1, q2⟩ := (HO.out _ _ hb1 hb2).fill 1 rfl (.int .i64 y0) (.int .i64 y1) (.int .i64 y2) (.int .i64 y3)
   exact bodyPost_ret (meta_result rfl _ _ w.heap.size _ rfl q1 rfl) rfl ⟨rfl, q2⟩
  ·rw [hs] at EY
   rw [if_pos rfl]
   have ey := SX y hs
   subst ey
   clear hs hc EX SX HD
   obtain ⟨x0, x1, x2, x3⟩ := x
   unfold Mt.v Mt.cells Mt.zero at *
   go_enter Tryz.func70, Tryz.ntmps70
   go_wp2_with (first
    | (go_at_call 108; (with_reducible refine (HA _).out.mono ?_); rintro e1 w1 ⟨rfl, hb1⟩)
    | (go_at_call 108; (with_reducible refine (HB _).out.mono ?_); rintro e2 w2 ⟨rfl, hb2⟩; obtain ⟨⟨a0, a1, a2, a3⟩, ⟨c0, c1, c2, c3⟩, ⟨f0, f1, f2, f3⟩, ⟨d0, d1, d2, d3⟩, g0, g1, g2, g3⟩ := HQ.out _ _ hb1 hb2; obtain ⟨⟨l0, l1, l2, l3⟩, ⟨m0, m1, m2, m3⟩, n0, n1, n2, n3⟩ := HP.out _ _ hb1 hb2))
   obtain ⟨q1, q2⟩ := (HO.out _ _ hb1 hb2).fill 1 rfl (.int .i64 0) (.int .i64 0) (.int .i64 0) (.int .i64 0)
   exact bodyPost_ret (meta_result rfl _ _ w.heap.size _ rfl q1 rfl) rfl ⟨rfl, q2⟩
 ·have k : decide (x.tx < y.tx) = false := decide_eq_false hc
  rw [if_neg hc]
  cases hs : x.same Mt.zero
  ·rw [hs] at EX
   rw [if_neg (by decide)]
   clear hs hc EY SX HD
   obtain ⟨x0, x1, x2, x3⟩ := x
   obtain ⟨y0, y1, y2, y3⟩ := y
   unfold Mt.v Mt.cells Mt.zero at *
   go_enter Tryz.func70, Tryz.ntmps70
   go_wp2_with (first
    | (go_at_call 108; (with_reducible refine (HA _).out.mono ?_); rintro e1 w1 ⟨rfl, hb1⟩)
    | (go_at_call 108; (with_reducible refine (HB _).out.mono ?_); rintro e2 w2 ⟨rfl, hb2⟩; obtain ⟨⟨a0, a1, a2, a3⟩, ⟨c0, c1, c2, c3⟩, ⟨f0, f1, f2, f3⟩, ⟨d0, d1, d2, d3⟩, g0, g1, g2, g3⟩ := HQ.out _ _ hb1 hb2))
   obtain ⟨q1, q2⟩ := (HM.out _ _ hb1 hb2).fill 2 rfl (.int .i64 x0) (.int .i64 x1) (.int .i64 x2) (.int .i64 x3)
   exact bodyPost_ret (meta_result rfl _ _ w.heap.size _ rfl q1 rfl) rfl ⟨rfl, q2⟩
  ·rw [hs] at EX
   rw [if_pos rfl]
   have ex := SX x hs
   subst ex
   clear hs hc EY SX HD
   obtain ⟨y0, y1, y2, y3⟩ := y
   unfold Mt.v Mt.cells Mt.zero at *
   go_enter Tryz.func70, Tryz.ntmps70
   go_wp2_with (first
    | (go_at_call 108; (with_reducible refine (HA _).out.mono ?_); rintro e1 w1 ⟨rfl, hb1⟩)
    | (go_at_call 108; (with_reducible refine (HB _).out.mono ?_); rintro e2 w2 ⟨rfl, hb2⟩; obtain ⟨⟨a0, a1, a2, a3⟩, ⟨c0, c1, c2, c3⟩, ⟨f0, f1, f2, f3⟩, ⟨d0, d1, d2, d3⟩, g0, g1, g2, g3⟩ := HQ.out _ _ hb1 hb2))
   obtain ⟨q1, q2⟩ := (HM.out _ _ hb1 hb2).fill 2 rfl (.int .i64 0) (.int .i64 0) (.int .i64 0) (.int .i64 0)
   exact bodyPost_ret (meta_result rfl _ _ w.heap.size _ rfl q1 rfl) rfl ⟨rfl, q2⟩
end Go.Proofs.YtbkngnjkaledlaaGreat.P6
namespace Go.Proofs.YtbkngnjkaledlaaGreat.P8
open Go Go.RowKit Go.Lib Go.Maps Go.ChangeMaps Go.MapKept P3 P4
open P6 (Mt Bks meta_result chM chE choose_any)
def metaOf (on : Bool) (a b : ByteArray) : Mt × Int := if on = false then (Mt.zero, 14) else (chM a b, chE a b)
def metaK (K : Dk) (s : ByteArray) : Mt × Int := metaOf K.on (readT K s 0) (readT K s 1)
section
variable {w W W' : World} {b d : Nat} {s : ByteArray} {n : Int} {K : Dk}
structure MS (w : World) (b d : Nat) (s : ByteArray) (n : Int) (K : Dk) (W : World) : Prop where
 sd : SD W b d s n K
 res : W.heap[w.heap.size]? = some (.cells #[.int .i64 0, .int .i64 0, .int .i64 0, .int .i64 0] 41 (0, 0))
 below : Below w.heap.size w W
theorem MS.made (h : SD w b d s n K) : MS w b d s n K (w.alloc (.cells #[.int .i64 0, .int .i64 0, .int .i64 0, .int .i64 0] 41)) := ⟨h.below (P3.below_new w _), P3.new_at w _ _, P3.below_new w _⟩
theorem MS.over (h : MS w b d s n K W) (hb : Below W.heap.size W W') : MS w b d s n K W' := ⟨h.sd.below hb, P3.old_below h.res hb, thenBelow h.below hb⟩
theorem MS.cells (h : MS w b d s n K W) : W.cell? ⟨b, 0, none⟩ = some (.pointer (some ⟨d, 0, none⟩)) ∧ W.cell? ⟨b, 1, none⟩ = some (.string s) := h.sd.cells
theorem MS.fin (h : MS w b d s n K W) (x y z t : Value) :
  (((((W.setCell ⟨w.heap.size, 0, none⟩ x).setCell ⟨w.heap.size, 1, none⟩ y).setCell ⟨w.heap.size, 2, none⟩ z).setCell ⟨w.heap.size, 3, none⟩ t).heap[w.heap.size]? = some (.cells #[x, y, z, t] 41 (0, 0))) ∧ Below w.heap.size w ((((W.setCell ⟨w.heap.size, 0, none⟩ x).setCell ⟨w.heap.size, 1, none⟩ y).setCell ⟨w.heap.size, 2, none⟩ z).setCell ⟨w.heap.size, 3, none⟩ t) :=
 ⟨P3.set_at (P3.set_at (P3.set_at (P3.set_at h.res 0 x) 1 y) 2 z) 3 t, (((h.below.setCell (Nat.le_refl _) x).setCell (Nat.le_refl _) y).setCell (Nat.le_refl _) z).setCell (Nat.le_refl _) t⟩
theorem SD.meta_ (h : SD w b d s n K) (hs : s.size ≤ maxLen) :
  Calls Tryz.prog 19 #[.pointer (some ⟨b, 0, none⟩)] w fun e w2 => e = .returned (.tuple #[(metaK K s).1.v, .int .i64 (metaK K s).2]) ∧ Below w.heap.size w w2 := by
 have HO : Hid (∀ W, MS w b d s n K W → Calls Tryz.prog 31 #[.pointer (some ⟨d, 0, none⟩)] W fun e w' => e = .returned (.bool K.on) ∧ W = w') := fun W k => on_any W d K.on (by rw [P3.cell_at k.sd.2.1.blk]; rfl)
 have HM := Lib.hid (MS.made h)
 have m0 := (MS.made h).cells.1
 unfold metaK metaOf
 by_cases hon : K.on = false
 ·rw [if_pos hon]
  rw [hon] at HO
  clear h hon
  go_enter Tryz.func19, Tryz.ntmps19
  go_wp2_with (go_at_call 31; (with_reducible refine (HO.out _ HM.out).mono ?_); rintro e w2 ⟨rfl, rfl⟩)
  exact bodyPost_ret (meta_result rfl _ _ w.heap.size _ rfl HM.out.res rfl) rfl ⟨rfl, HM.out.below⟩
 ·rw [if_neg hon]
  have hon2 : K.on = true := by cases hb : K.on with | true => rfl | false => exact absurd hb hon
  rw [hon2] at HO
  obtain ⟨s0, hs0⟩ : ∃ x, x = readT K s 0 := ⟨_, rfl⟩
  obtain ⟨s1, hs1⟩ : ∃ x, x = readT K s 1 := ⟨_, rfl⟩
  obtain ⟨e0, he0⟩ : ∃ x, x = P4.readE K s 0 := ⟨_, rfl⟩
  obtain ⟨e1, he1⟩ : ∃ x, x = P4.readE K s 1 := ⟨_, rfl⟩
  have HR0 : Hid (∀ W, MS w b d s n K W → Calls Tryz.prog 65 #[.pointer (some ⟨d, 0, none⟩), .string s, .int .i64 0] W fun e w' => e = .returned (.tuple #[.string s0, .int .i64 e0]) ∧ Below W.heap.size W w') := fun W k => by rw [hs0, he0]; exact k.sd.2.1.read s 0 hs
  have HR1 : Hid (∀ W, MS w b d s n K W → Calls Tryz.prog 65 #[.pointer (some ⟨d, 0, none⟩), .string s, .int .i64 1] W fun e w' => e = .returned (.tuple #[.string s1, .int .i64 e1]) ∧ Below W.heap.size W w') := fun W k => by rw [hs1, he1]; exact k.sd.2.1.read s 1 hs
  rw [← hs0, ← hs1]
  obtain ⟨M, hM⟩ : ∃ M, M = chM s0 s1 := ⟨_, rfl⟩
  obtain ⟨E, hE⟩ : ∃ E, E = chE s0 s1 := ⟨_, rfl⟩
  have HC : Hid (∀ W, Calls Tryz.prog 70 #[.string s0, .string s1] W fun e w' => e = .returned (.tuple #[.agg #[.int .i64 M.tx, .int .i64 M.root, .int .i64 M.free, .int .i64 M.pages], .int .i64 E]) ∧ Below W.heap.size W w') := fun W => by
   have q := choose_any W s0 s1
   rw [← hM, ← hE] at q
   exact q
  rw [← hM, ← hE]
  have HX : Hid (∀ W, MS w b d s n K W → W.cell? ⟨b, 0, none⟩ = some (.pointer (some ⟨d, 0, none⟩)) ∧ W.cell? ⟨b, 1, none⟩ = some (.string s)) := fun _ k => k.cells
  have HMd := Lib.hid (HM.out.over (Below.refl _ _).drew)
  clear h hon hon2 hs0 hs1 he0 he1 hM hE
  go_enter Tryz.func19, Tryz.ntmps19
  go_upto_region 5 with (go_at_call 31; (with_reducible refine (HO.out _ HM.out).mono ?_); rintro e w2 ⟨rfl, rfl⟩)
  go_cut [4, 5] from 20 to 31 (fun v e W' => v = .string s0 ∧ MS w b d s n K W')
  case first =>
   go_region_held3 (fun W' => W'.cell? ⟨b, 0, none⟩ = some (.pointer (some ⟨d, 0, none⟩)) ∧ W'.cell? ⟨b, 1, none⟩ = some (.string s)) (first | exact HX.out _ HM.out | exact HX.out _ HMd.out | exact HX.out _ H2.out)
    ((go_at_call 65; (with_reducible refine (HR0.out _ (by first | exact HMd.out | exact HM.out)).mono ?_); rintro e w2 ⟨rfl, hb⟩; have H2 := Lib.hid (show MS w b d s n K w2 from (by first | exact HMd.out.over hb | exact HM.out.over hb)); clear hb))
   all_goals
    go_wp2
    go_meet
    exact ⟨rfl, H2.out⟩
  case rest =>
   obtain ⟨rfl, HN⟩ := hcut
   clear HM HMd m0
   have HM := Lib.hid HN
   have HMd := Lib.hid (HN.over (Below.refl _ _).drew)
   clear HN
   go_upto_region 6 with fail
   go_cut [6, 7] from 32 to 43 (fun v e W' => v = .string s1 ∧ MS w b d s n K W')
   case first =>
    go_region_held3 (fun W' => W'.cell? ⟨b, 0, none⟩ = some (.pointer (some ⟨d, 0, none⟩)) ∧ W'.cell? ⟨b, 1, none⟩ = some (.string s)) (first | exact HX.out _ HM.out | exact HX.out _ HMd.out | exact HX.out _ H2.out)
     ((go_at_call 65; (with_reducible refine (HR1.out _ (by first | exact HMd.out | exact HM.out)).mono ?_); rintro e w2 ⟨rfl, hb⟩; have H2 := Lib.hid (show MS w b d s n K w2 from (by first | exact HMd.out.over hb | exact HM.out.over hb)); clear hb))
    all_goals
     go_wp2
     go_meet
     exact ⟨rfl, H2.out⟩
   case rest =>
    obtain ⟨rfl, HN⟩ := hcut
    clear HM HMd HX HR0 HR1 HO
    have HN := Lib.hid HN
    go_wp2_with (go_at_call 70; (with_reducible refine (HC.out _).mono ?_); rintro e w5 ⟨rfl, hb⟩; have H5 := Lib.hid (HN.out.over hb); obtain ⟨r0, r1, r2, r3⟩ := P6.cells4 H5.out.res; obtain ⟨f0, f1, f2, f3⟩ := P6.free4 H5.out.res; clear hb)
    obtain ⟨q1, q2⟩ := H5.out.fin (.int .i64 M.tx) (.int .i64 M.root) (.int .i64 M.free) (.int .i64 M.pages)
    exact bodyPost_ret (meta_result rfl _ _ w.heap.size _ rfl q1 rfl) rfl ⟨rfl, q2⟩
end
end Go.Proofs.YtbkngnjkaledlaaGreat.P8
namespace Go.Proofs.YtbkngnjkaledlaaGreat.P6
open Go Go.RowKit Go.Lib P0 P2 P5
structure OSt (w0 : World) (m : Mt) (w : World) : Prop where
 hm : w.heap[w0.heap.size]? = some (.cells m.cells 93 (0, 0))
 below : Below w0.heap.size w0 w
theorem OSt.over {w0 : World} {m : Mt} {w w' : World} (h : OSt w0 m w) (k : Below w.heap.size w w') : OSt w0 m w' :=
 ⟨by rw [k.block _ (lt_of_block h.hm)]; exact h.hm, thenBelow h.below k⟩
theorem OSt.drew {w0 : World} {m : Mt} {w : World} (h : OSt w0 m w) : OSt w0 m w.drew := h.over ((Below.refl _ _).drew)
theorem OSt.start (w : World) (m : Mt) : OSt w m (w.alloc (.cells m.cells 93)) := ⟨new_at w _ _, below_new w _⟩
theorem bytes_ref (m : Mt) : str (low 8 m.tx.toNat) ++ str (low 8 m.root.toNat) ++ str (low 8 m.free.toNat) ++ str (low 8 m.pages.toNat) = str m.bytes := by
 apply text_ext
 simp only [text_app, str_list, Mt.bytes, List.append_assoc]
theorem rmlay_ok (w : World) (m : Mt) (h : m.ok) :
  Calls Tryz.prog 44 #[m.v] w fun r w' => r = .returned (.string m.sector) ∧ Below w.heap.size w w' := by
 have hr := m.ok_range h
 have hst := OSt.start w m
 have hstd := hst.drew
 have HL := fun W => Lib.hid (rLay_ok W m.sheet (m.sheet_ok h))
 have hB := bytes_ref m
 have HV : Hid (m.sheet.v = .agg #[.int .i64 1, .int .i64 (m.tx % 2), .int .i64 m.tx, .string (str m.bytes)]) := rfl
 rw [HV.out, show m.sheet.sector = m.sector from rfl] at HL
 generalize m.sector = S at *
 clear h HV
 obtain ⟨tx, root, free, pages⟩ := m
 simp only at hr hB HL
 obtain ⟨h1, h2, h3, h4, h5, h6, h7, h8⟩ := hr
 obtain ⟨tx, rfl⟩ := Int.eq_ofNat_of_zero_le (show 0 ≤ tx by omega)
 obtain ⟨root, rfl⟩ := Int.eq_ofNat_of_zero_le h3
 obtain ⟨free, rfl⟩ := Int.eq_ofNat_of_zero_le h5
 obtain ⟨pages, rfl⟩ := Int.eq_ofNat_of_zero_le (show 0 ≤ pages by omega)
 simp only [Int.toNat_natCast] at hB
 have LL : ∀ (v : Nat) (W : World), v < 18446744073709551616 → OSt w ⟨tx, root, free, pages⟩ W → Calls Tryz.prog 87 #[.int .u64 v, .int .i64 8] W fun r w' => r = .returned (.string (str (low 8 v))) ∧ OSt w ⟨tx, root, free, pages⟩ w' :=
  fun v W hv hW => (rLow_any W v 8 hv (by omega)).mono fun _ _ ⟨a, d⟩ => ⟨a, hW.over d⟩
 have L1 := Lib.hid (show ∀ W, OSt w ⟨tx, root, free, pages⟩ W → _ from fun W hW => LL tx W (by omega) hW)
 have L2 := Lib.hid (show ∀ W, OSt w ⟨tx, root, free, pages⟩ W → _ from fun W hW => LL root W (by omega) hW)
 have L3 := Lib.hid (show ∀ W, OSt w ⟨tx, root, free, pages⟩ W → _ from fun W hW => LL free W (by omega) hW)
 have L4 := Lib.hid (show ∀ W, OSt w ⟨tx, root, free, pages⟩ W → _ from fun W hW => LL pages W (by omega) hW)
 have w1 : IntKind.u64.wrap (tx : Int) = tx := by rw [IntKind.wrap_u64]; omega
 have w2 : IntKind.u64.wrap (root : Int) = root := by rw [IntKind.wrap_u64]; omega
 have w3 : IntKind.u64.wrap (free : Int) = free := by rw [IntKind.wrap_u64]; omega
 have w4 : IntKind.u64.wrap (pages : Int) = pages := by rw [IntKind.wrap_u64]; omega
 have CE := Lib.hid (show ∀ W, OSt w ⟨tx, root, free, pages⟩ W → _ ∧ _ ∧ _ ∧ _ from fun W hW => cells4 hW.hm)
 have BE := Lib.hid (show ∀ W, OSt w ⟨tx, root, free, pages⟩ W → Below w.heap.size w W from fun W hW => hW.below)
 have q0 := CE.out _ hst
 have q0d := CE.out _ hstd
 have rm : (tx : Int).tmod 2 = (tx : Int) % 2 := Int.tmod_eq_emod_of_nonneg (by omega)
 have z1 : (str (low 8 tx)).size = 8 := by rw [str_size, low_length]
 have z2 : (str (low 8 root)).size = 8 := by rw [str_size, low_length]
 have z3 : (str (low 8 free)).size = 8 := by rw [str_size, low_length]
 have z4 : (str (low 8 pages)).size = 8 := by rw [str_size, low_length]
 generalize str (low 8 tx) = s1 at *
 generalize str (low 8 root) = s2 at *
 generalize str (low 8 free) = s3 at *
 generalize str (low 8 pages) = s4 at *
 generalize str (Mt.mk (tx : Int) root free pages).bytes = B at *
 have HB := Lib.hid hB
 clear h1 h2 h3 h4 h5 h6 h7 h8 LL hB
 unfold Mt.v Mt.cells at *
 go_enter Tryz.func44, Tryz.ntmps44
 go_wp2_with fail
 go_region_held3 (fun w' => w'.cell? ⟨w.heap.size, 0, none⟩ = some (.int .i64 tx) ∧ w'.cell? ⟨w.heap.size, 1, none⟩ = some (.int .i64 root) ∧ w'.cell? ⟨w.heap.size, 2, none⟩ = some (.int .i64 free) ∧ w'.cell? ⟨w.heap.size, 3, none⟩ = some (.int .i64 pages)) (first | exact q0 | exact q0d | exact CE.out _ (by assumption))
  ((first
   | (go_at_call 87; (with_reducible refine (L1.out _ (by assumption)).mono ?_); rintro e w5 ⟨rfl, st1⟩)
   | (go_at_call 87; (with_reducible refine (L2.out _ (by assumption)).mono ?_); rintro e w5 ⟨rfl, st1⟩)
   | (go_at_call 87; (with_reducible refine (L3.out _ (by assumption)).mono ?_); rintro e w5 ⟨rfl, st1⟩)
   | (go_at_call 87; (with_reducible refine (L4.out _ (by assumption)).mono ?_); rintro e w5 ⟨rfl, st1⟩)
   | (go_at_call 87; rw [w1]; (with_reducible refine (L1.out _ (by assumption)).mono ?_); rintro e w5 ⟨rfl, st1⟩)
   | (go_at_call 87; rw [w2]; (with_reducible refine (L2.out _ (by assumption)).mono ?_); rintro e w5 ⟨rfl, st1⟩)
   | (go_at_call 87; rw [w3]; (with_reducible refine (L3.out _ (by assumption)).mono ?_); rintro e w5 ⟨rfl, st1⟩)
   | (go_at_call 87; rw [w4]; (with_reducible refine (L4.out _ (by assumption)).mono ?_); rintro e w5 ⟨rfl, st1⟩)
   | (go_at_call 38; rw [HB.out]; (with_reducible refine (HL _).out.mono ?_); rintro e w6 ⟨rfl, hb6⟩; have st2 := OSt.over (by assumption) hb6)))
 all_goals
  go_wp2
  go_ret
  exact ⟨rfl, BE.out _ st2⟩
end Go.Proofs.YtbkngnjkaledlaaGreat.P6
