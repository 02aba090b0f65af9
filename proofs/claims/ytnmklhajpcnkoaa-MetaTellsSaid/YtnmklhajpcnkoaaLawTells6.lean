/-
  P601, P602: every meta's sector, every bytes' meta; of every two sectors the one that counts: the walk of the statement MetaTells. (Written by gen_meta_tells.py.)
-/
import Derived.Test.YtnmklhajpcnkoaaMt15
import Derived.Deep.RegionHeld3
namespace Go.Proofs.Ytnmklhajpcnkoaa.P6
open Go Go.RowKit Go.Lib Go.Proofs.Ytnmklhajpcnkoaa.P0 Go.Proofs.Ytnmklhajpcnkoaa.P2 Go.Proofs.Ytnmklhajpcnkoaa.P5

/-- the i-th operation, written out -/
theorem op_at {ops : Array Oper} {i : Nat} {o : Oper} {rest : List Oper} (h : ops.toList.drop i = o :: rest) : ops[i]? = some o := by
  have := congrArg List.head? h
  rw [List.head?_drop] at this
  simpa using this
section
variable {P : Program} {ops : Array Oper} {Q : Exit → Act → World → Prop} {md : Region.Mode} {S : World → Prop}
/-- an operation that is wanted and only reads is taken first -/
theorem take_w (i : Nat) {oi : Oper} {rest : List Oper} {v : Value} {fuel : Nat} {listed : Array Bool} {a : Act} {w : World} (h0 : ops.toList.drop i = oi :: rest)
    (hs : Region.noSelect ops = true) (hf : Region.free md ops listed i = true) (hr : (Region.ready md ops listed).contains i = true)
    (hQ : ∀ c a w, Q (.panic c) (a.put oi.dst v) w → Q (.panic c) a w) (hw : Region.wanted oi (yielded ops a.tmps) = true) (hv : ∀ w, S w → (execOp a.eval oi).run P w = .ok (.value v) w) (hS : S w)
    (h : wpAnyH P md ops Q S fuel (listed.setIfInBounds i true) (a.put oi.dst v) w) : wpAnyH P md ops Q S (fuel + 1) listed a w :=
  wpAnyH_take (op_at h0) hs hf hr hQ (.inl ⟨hw, hv⟩) hS h
/-- an operation that is not wanted is passed by -/
theorem take_s (i : Nat) {oi : Oper} {rest : List Oper} {fuel : Nat} {listed : Array Bool} {a : Act} {w : World} (h0 : ops.toList.drop i = oi :: rest)
    (hs : Region.noSelect ops = true) (hf : Region.free md ops listed i = true) (hr : (Region.ready md ops listed).contains i = true)
    (hQ : ∀ c a w, Q (.panic c) (a.put oi.dst undef) w → Q (.panic c) a w) (hw : Region.wanted oi (yielded ops a.tmps) = false) (hS : S w)
    (h : wpAnyH P md ops Q S fuel (listed.setIfInBounds i true) (a.put oi.dst undef) w) : wpAnyH P md ops Q S (fuel + 1) listed a w :=
  wpAnyH_take (op_at h0) hs hf hr hQ (.inr ⟨hw, rfl⟩) hS h
/-- the one operation that may come up is carried out -/
theorem do_one (i : Nat) {o : Oper} {rest : List Oper} {fuel : Nat} {listed : Array Bool} {a : Act} {w : World} (h0 : ops.toList.drop i = o :: rest)
    (hr : Region.ready md ops listed = [i]) (hw : Region.wanted o (yielded ops a.tmps) = true)
    (h : ∀ K' : Act → World → Prop, Hid (∀ a w, S w → (S w → wpAnyH P md ops Q S fuel (listed.setIfInBounds i true) a w) → K' a w) → Oper.wp P o a w K' Q) : wpAnyH P md ops Q S (fuel + 1) listed a w :=
  wpAnyH_ready hr (by simp) (AllReadyH.cons (op_at h0) (fun K' hK => by rw [if_pos hw]; exact h K' hK) AllReadyH.nil)
end

theorem tells_skip (w : World) (m : Mt) (a b : ByteArray) (h : ¬ (a.size ≤ 600 ∧ b.size ≤ 600)) :
    Calls Try.prog 3 #[m.v, .string a, .string b] w fun r w' => r = .returned (.bool true) ∧ Below w.heap.size w w' := by
  have K := fun w' => Lib.hid (alive_any6 w')
  have hB : Hid (Below w.heap.size w (w.alloc (.cells m.cells 23))) := below_new w _
  unfold Mt.v Mt.cells at *
  by_cases h1 : a.size ≤ 600
  · have k1 : decide ((600 : Int) < (a.size : Int)) = false := decide_eq_false (by omega)
    have k1' : decide (600 < a.size) = false := decide_eq_false (by omega)
    have k2 : decide ((600 : Int) < (b.size : Int)) = true := decide_eq_true (by omega)
    have k2' : decide (600 < b.size) = true := decide_eq_true (by omega)
    clear h h1
    go_enter Try.func3, Try.ntmps3
    go_wp2_with (go_at_call 6; (with_reducible refine (K _).out.mono ?_); rintro e w1 ⟨rfl, hb⟩)
    go_ret
    exact ⟨rfl, thenBelow hB.out hb⟩
  · have k1 : decide ((600 : Int) < (a.size : Int)) = true := decide_eq_true (by omega)
    have k1' : decide (600 < a.size) = true := decide_eq_true (by omega)
    clear h h1
    go_enter Try.func3, Try.ntmps3
    go_wp2_with (go_at_call 6; (with_reducible refine (K _).out.mono ?_); rintro e w1 ⟨rfl, hb⟩)
    go_ret
    exact ⟨rfl, thenBelow hB.out hb⟩

set_option maxRecDepth 100000 in
set_option maxHeartbeats 8000000 in
theorem tells_ok (w : World) (m : Mt) (a b : ByteArray) (ha : a.size ≤ 600) (hb : b.size ≤ 600) (hm : m.ok) :
    Calls Try.prog 3 #[m.v, .string a, .string b] w fun r w' => r = .returned (.bool true) ∧ Below w.heap.size w w' := by
  have K := fun w' => Lib.hid (alive_any6 w')
  have k1 : decide ((600 : Int) < (a.size : Int)) = false := decide_eq_false (by omega)
  have k1' : decide (600 < a.size) = false := decide_eq_false (by omega)
  have k2 : decide ((600 : Int) < (b.size : Int)) = false := decide_eq_false (by omega)
  have k2' : decide (600 < b.size) = false := decide_eq_false (by omega)
  have PL := fun W => Lib.hid (plain_any W m)
  have V1 := fun W => Lib.hid (mvalid_any W m)
  have V2 := fun W => Lib.hid (rmvalid_any W m)
  rw [decide_eq_true hm] at V1 V2
  have hr := m.ok_range hm
  have L1 := fun W => Lib.hid (mlay_ok W m hm)
  have L2 := fun W => Lib.hid (rmlay_ok W m hm)
  have SL := fun W => Lib.hid (slot_any W m.tx (by omega) (by omega))
  have rm : m.tx.tmod 2 = m.tx % 2 := Int.tmod_eq_emod_of_nonneg (by omega)
  have rk : (m.tx % 2 != m.tx % 2) = false := by simp
  have C1 := fun W => Lib.hid (choose_any W m.sector a)
  have C2 := fun W => Lib.hid (rchoose_any W m.sector a)
  have R3 := fun W => Lib.hid (real_any W (chM m.sector a))
  have E3 := fun W : World => meta_eql W (chM m.sector a) (chM m.sector a)
  rw [Mt.same_self] at E3
  generalize chM m.sector a = M3 at *
  generalize chE m.sector a = f3 at *
  generalize m.sector = S at *
  clear hr
  have A1 := fun W => Lib.hid (mread_any W a)
  have A2 := fun W => Lib.hid (rmread_any W a)
  have R1 := fun W => Lib.hid (real_any W (readM a))
  have E1 := fun W : World => meta_eql W (readM a) (readM a)
  have B1 := fun W => Lib.hid (choose_any W a b)
  have B2 := fun W => Lib.hid (rchoose_any W a b)
  have R2 := fun W => Lib.hid (real_any W (chM a b))
  have E2 := fun W : World => meta_eql W (chM a b) (chM a b)
  rw [Mt.same_self] at E1 E2
  generalize chM a b = M2 at *
  generalize chE a b = f2 at *
  generalize readM a = M1 at *
  generalize readR a = f1 at *
  clear ha hb hm
  have HST := Lib.hid ((Bks.nil w).new m.cells 23)
  have DW := Lib.hid (show ∀ l W, Bks w l W → Bks w l W.drew from fun l W k => k.over ((Below.refl _ _).drew))
  have NW := Lib.hid (show ∀ l W, Bks w l W → ∀ (x : Mt) t, Bks w ((W.heap.size, x.cells, t) :: l) (W.alloc (.cells x.cells t)) from fun l W k x t => k.new _ _)
  have CM := Lib.hid (show ∀ b0 t l W, Bks w ((b0, m.cells, t) :: l) W → _ from fun b0 t l W k => cells4 (k.at_ 0 rfl))
  have CA := Lib.hid (show ∀ b1 b2 b3 b4 b5 b6 l W, Bks w ((b6, M3.cells, 29) :: (b5, M3.cells, 23) :: (b4, M2.cells, 29) :: (b3, M2.cells, 23) :: (b2, M1.cells, 29) :: (b1, M1.cells, 23) :: l) W → _ ∧ _ ∧ _ ∧ _ ∧ _ ∧ _ from fun b1 b2 b3 b4 b5 b6 l W k => ⟨cells4 (k.at_ 5 rfl), cells4 (k.at_ 4 rfl), cells4 (k.at_ 3 rfl), cells4 (k.at_ 2 rfl), cells4 (k.at_ 1 rfl), cells4 (k.at_ 0 rfl)⟩)
  have BW := Lib.hid (show ∀ l W, Bks w l W → Below w.heap.size w W from fun l W k => k.below)
  obtain ⟨x0, x1, x2, x3⟩ := m
  obtain ⟨y0, y1, y2, y3⟩ := M1
  obtain ⟨z0, z1, z2, z3⟩ := M2
  obtain ⟨u0, u1, u2, u3⟩ := M3
  have N1 := Lib.hid (show ∀ l W, Bks w l W → _ from fun l W k => NW.out l W k ⟨y0, y1, y2, y3⟩ 23)
  have N2 := Lib.hid (show ∀ l W, Bks w l W → _ from fun l W k => NW.out l W k ⟨y0, y1, y2, y3⟩ 29)
  have N3 := Lib.hid (show ∀ l W, Bks w l W → _ from fun l W k => NW.out l W k ⟨z0, z1, z2, z3⟩ 23)
  have N4 := Lib.hid (show ∀ l W, Bks w l W → _ from fun l W k => NW.out l W k ⟨z0, z1, z2, z3⟩ 29)
  have N5 := Lib.hid (show ∀ l W, Bks w l W → _ from fun l W k => NW.out l W k ⟨u0, u1, u2, u3⟩ 23)
  have N6 := Lib.hid (show ∀ l W, Bks w l W → _ from fun l W k => NW.out l W k ⟨u0, u1, u2, u3⟩ 29)
  simp only at *
  unfold Mt.v Mt.cells at *
  clear NW
  go_enter Try.func3, Try.ntmps3
  go_wp2_with (first
    | (go_at_call 6; (with_reducible refine (K _).out.mono ?_); rintro e w1 ⟨rfl, hb⟩; have s1 := HST.out.over hb; clear hb; obtain ⟨c0, c1, c2, c3⟩ := CM.out _ _ _ _ s1)
    | (go_at_call 7; (with_reducible refine (L1 _).out.mono ?_); rintro e w2 ⟨rfl, hb⟩; have s2 := s1.over hb; clear hb; obtain ⟨c0, c1, c2, c3⟩ := CM.out _ _ _ _ s2)
    | (go_at_call 9; (with_reducible refine (PL _).out.mono ?_); rintro e w3 ⟨rfl, hb⟩; have s3 := s2.over hb; clear hb)
    | (go_at_call 8; (with_reducible refine (V2 _).out.mono ?_); rintro e w4 ⟨rfl, hb⟩; have s4 := s3.over hb; have s4d := DW.out _ _ s4; clear hb; have c4 := CM.out _ _ _ _ s4d; obtain ⟨c0, c1, c2, c3⟩ := CM.out _ _ _ _ s4))
  obtain ⟨d0, d1, d2, d3⟩ := c4
  go_cut [81] from 43 to 81 (fun v W => v = .bool false ∧ ∃ l, Hid (Bks w l W))
  case first =>
    refine wp_region_held_drew (S := fun W => W.cell? ⟨w.heap.size, 0, none⟩ = some (.int .i64 x0) ∧ W.cell? ⟨w.heap.size, 1, none⟩ = some (.int .i64 x1) ∧ W.cell? ⟨w.heap.size, 2, none⟩ = some (.int .i64 x2) ∧ W.cell? ⟨w.heap.size, 3, none⟩ = some (.int .i64 x3)) (by kernel_rfl) (CM.out _ _ _ _ s4d) (fun hHeld => ?_)
    refine take_w 0 rfl (by kernel_rfl) (by kernel_rfl) (by kernel_rfl) (fun _ _ _ h => h) (by rfl) (fun w hSw => by (try dsimp only at hSw); go_simp; try with_reducible rfl) (by assumption) ?_
    simp only [Act.put, List.setIfInBounds_toArray, List.set_cons_zero, List.set_cons_succ]
    refine take_w 2 rfl (by kernel_rfl) (by kernel_rfl) (by kernel_rfl) (fun _ _ _ h => h) (by rfl) (fun w hSw => by (try dsimp only at hSw); go_simp; try with_reducible rfl) (by assumption) ?_
    simp only [Act.put, List.setIfInBounds_toArray, List.set_cons_zero, List.set_cons_succ]
    refine do_one 1 rfl (by kernel_rfl) (by rfl) (fun K hK => ?_)
    go_simp
    go_at_call 10; (with_reducible refine (V1 _).out.mono ?_); rintro e w5 ⟨rfl, hb⟩; have s5 := s4d.over hb; clear hb
    go_wp2_with fail
    refine hK.out _ _ (CM.out _ _ _ _ s5) (fun hHeld => ?_)
    clear hK K
    try simp only [Act.put, List.setIfInBounds_toArray, List.set_cons_zero, List.set_cons_succ]
    refine take_w 3 rfl (by kernel_rfl) (by kernel_rfl) (by kernel_rfl) (fun _ _ _ h => h) (by rfl) (fun w hSw => by (try dsimp only at hSw); go_simp; try with_reducible rfl) (by assumption) ?_
    simp only [Act.put, List.setIfInBounds_toArray, List.set_cons_zero, List.set_cons_succ]
    refine take_w 4 rfl (by kernel_rfl) (by kernel_rfl) (by kernel_rfl) (fun _ _ _ h => h) (by rfl) (fun w hSw => by (try dsimp only at hSw); go_simp; try with_reducible rfl) (by assumption) ?_
    simp only [Act.put, List.setIfInBounds_toArray, List.set_cons_zero, List.set_cons_succ]
    refine take_w 5 rfl (by kernel_rfl) (by kernel_rfl) (by kernel_rfl) (fun _ _ _ h => h) (by rfl) (fun w hSw => by (try dsimp only at hSw); go_simp; try with_reducible rfl) (by assumption) ?_
    simp only [Act.put, List.setIfInBounds_toArray, List.set_cons_zero, List.set_cons_succ]
    refine take_w 6 rfl (by kernel_rfl) (by kernel_rfl) (by kernel_rfl) (fun _ _ _ h => h) (by rfl) (fun w hSw => by (try dsimp only at hSw); go_simp; try with_reducible rfl) (by assumption) ?_
    simp only [Act.put, List.setIfInBounds_toArray, List.set_cons_zero, List.set_cons_succ]
    refine take_w 7 rfl (by kernel_rfl) (by kernel_rfl) (by kernel_rfl) (fun _ _ _ h => h) (by rfl) (fun w hSw => by (try dsimp only at hSw); go_simp; try with_reducible rfl) (by assumption) ?_
    simp only [Act.put, List.setIfInBounds_toArray, List.set_cons_zero, List.set_cons_succ]
    refine take_w 8 rfl (by kernel_rfl) (by kernel_rfl) (by kernel_rfl) (fun _ _ _ h => h) (by rfl) (fun w hSw => by (try dsimp only at hSw); go_simp; try with_reducible rfl) (by assumption) ?_
    simp only [Act.put, List.setIfInBounds_toArray, List.set_cons_zero, List.set_cons_succ]
    refine take_w 9 rfl (by kernel_rfl) (by kernel_rfl) (by kernel_rfl) (fun _ _ _ h => h) (by rfl) (fun w hSw => by (try dsimp only at hSw); go_simp; try with_reducible rfl) (by assumption) ?_
    simp only [Act.put, List.setIfInBounds_toArray, List.set_cons_zero, List.set_cons_succ]
    refine take_w 10 rfl (by kernel_rfl) (by kernel_rfl) (by kernel_rfl) (fun _ _ _ h => h) (by rfl) (fun w hSw => by (try dsimp only at hSw); go_simp; try with_reducible rfl) (by assumption) ?_
    simp only [Act.put, List.setIfInBounds_toArray, List.set_cons_zero, List.set_cons_succ]
    refine take_w 11 rfl (by kernel_rfl) (by kernel_rfl) (by kernel_rfl) (fun _ _ _ h => h) (by rfl) (fun w hSw => by (try dsimp only at hSw); go_simp; try with_reducible rfl) (by assumption) ?_
    simp only [Act.put, List.setIfInBounds_toArray, List.set_cons_zero, List.set_cons_succ]
    refine do_one 12 rfl (by kernel_rfl) (by rfl) (fun K hK => ?_)
    go_simp
    go_at_call 9; (with_reducible refine (PL _).out.mono ?_); rintro e w6 ⟨rfl, hb⟩; have s6 := s5.over hb; clear hb
    go_wp2_with fail
    refine hK.out _ _ (CM.out _ _ _ _ s6) (fun hHeld => ?_)
    clear hK K
    try simp only [Act.put, List.setIfInBounds_toArray, List.set_cons_zero, List.set_cons_succ]
    refine do_one 13 rfl (by kernel_rfl) (by rfl) (fun K hK => ?_)
    go_simp
    go_at_call 11; (with_reducible refine (L2 _).out.mono ?_); rintro e w7 ⟨rfl, hb⟩; have s7 := s6.over hb; clear hb
    go_wp2_with fail
    refine hK.out _ _ (CM.out _ _ _ _ s7) (fun hHeld => ?_)
    clear hK K
    try simp only [Act.put, List.setIfInBounds_toArray, List.set_cons_zero, List.set_cons_succ]
    refine take_w 14 rfl (by kernel_rfl) (by kernel_rfl) (by kernel_rfl) (fun _ _ _ h => h) (by rfl) (fun w hSw => by (try dsimp only at hSw); go_simp; try with_reducible rfl) (by assumption) ?_
    simp only [Act.put, List.setIfInBounds_toArray, List.set_cons_zero, List.set_cons_succ]
    refine take_w 15 rfl (by kernel_rfl) (by kernel_rfl) (by kernel_rfl) (fun _ _ _ h => h) (by rfl) (fun w hSw => by (try dsimp only at hSw); go_simp; try with_reducible rfl) (by assumption) ?_
    simp only [Act.put, List.setIfInBounds_toArray, List.set_cons_zero, List.set_cons_succ]
    refine take_w 16 rfl (by kernel_rfl) (by kernel_rfl) (by kernel_rfl) (fun _ _ _ h => h) (by rfl) (fun w hSw => by (try dsimp only at hSw); go_simp; try with_reducible rfl) (by assumption) ?_
    simp only [Act.put, List.setIfInBounds_toArray, List.set_cons_zero, List.set_cons_succ]
    refine take_w 17 rfl (by kernel_rfl) (by kernel_rfl) (by kernel_rfl) (fun _ _ _ h => h) (by rfl) (fun w hSw => by (try dsimp only at hSw); go_simp; try with_reducible rfl) (by assumption) ?_
    simp only [Act.put, List.setIfInBounds_toArray, List.set_cons_zero, List.set_cons_succ]
    refine take_w 18 rfl (by kernel_rfl) (by kernel_rfl) (by kernel_rfl) (fun _ _ _ h => h) (by rfl) (fun w hSw => by (try dsimp only at hSw); go_simp; try with_reducible rfl) (by assumption) ?_
    simp only [Act.put, List.setIfInBounds_toArray, List.set_cons_zero, List.set_cons_succ]
    refine take_w 20 rfl (by kernel_rfl) (by kernel_rfl) (by kernel_rfl) (fun _ _ _ h => h) (by rfl) (fun w hSw => by (try dsimp only at hSw); go_simp; try with_reducible rfl) (by assumption) ?_
    simp only [Act.put, List.setIfInBounds_toArray, List.set_cons_zero, List.set_cons_succ]
    refine take_w 21 rfl (by kernel_rfl) (by kernel_rfl) (by kernel_rfl) (fun _ _ _ h => h) (by rfl) (fun w hSw => by (try dsimp only at hSw); go_simp; try with_reducible rfl) (by assumption) ?_
    simp only [Act.put, List.setIfInBounds_toArray, List.set_cons_zero, List.set_cons_succ]
    refine take_w 22 rfl (by kernel_rfl) (by kernel_rfl) (by kernel_rfl) (fun _ _ _ h => h) (by rfl) (fun w hSw => by (try dsimp only at hSw); go_simp; try with_reducible rfl) (by assumption) ?_
    simp only [Act.put, List.setIfInBounds_toArray, List.set_cons_zero, List.set_cons_succ]
    refine do_one 19 rfl (by kernel_rfl) (by rfl) (fun K hK => ?_)
    go_simp
    go_at_call 12; (with_reducible refine (SL _).out.mono ?_); rintro e w8 ⟨rfl, rfl⟩
    go_wp2_with fail
    refine hK.out _ _ (CM.out _ _ _ _ s7) (fun hHeld => ?_)
    clear hK K
    try simp only [Act.put, List.setIfInBounds_toArray, List.set_cons_zero, List.set_cons_succ]
    refine take_w 23 rfl (by kernel_rfl) (by kernel_rfl) (by kernel_rfl) (fun _ _ _ h => h) (by rfl) (fun w hSw => by (try dsimp only at hSw); go_simp; try with_reducible rfl) (by assumption) ?_
    simp only [Act.put, List.setIfInBounds_toArray, List.set_cons_zero, List.set_cons_succ]
    refine take_w 24 rfl (by kernel_rfl) (by kernel_rfl) (by kernel_rfl) (fun _ _ _ h => h) (by rfl) (fun w hSw => by (try dsimp only at hSw); go_simp; try with_reducible rfl) (by assumption) ?_
    simp only [Act.put, List.setIfInBounds_toArray, List.set_cons_zero, List.set_cons_succ]
    refine take_w 25 rfl (by kernel_rfl) (by kernel_rfl) (by kernel_rfl) (fun _ _ _ h => h) (by rfl) (fun w hSw => by (try dsimp only at hSw); go_simp; try with_reducible rfl) (by assumption) ?_
    simp only [Act.put, List.setIfInBounds_toArray, List.set_cons_zero, List.set_cons_succ]
    refine take_w 26 rfl (by kernel_rfl) (by kernel_rfl) (by kernel_rfl) (fun _ _ _ h => h) (by rfl) (fun w hSw => by (try dsimp only at hSw); go_simp; try with_reducible rfl) (by assumption) ?_
    simp only [Act.put, List.setIfInBounds_toArray, List.set_cons_zero, List.set_cons_succ]
    refine take_w 27 rfl (by kernel_rfl) (by kernel_rfl) (by kernel_rfl) (fun _ _ _ h => h) (by rfl) (fun w hSw => by (try dsimp only at hSw); go_simp; try with_reducible rfl) (by assumption) ?_
    simp only [Act.put, List.setIfInBounds_toArray, List.set_cons_zero, List.set_cons_succ]
    refine take_w 28 rfl (by kernel_rfl) (by kernel_rfl) (by kernel_rfl) (fun _ _ _ h => h) (by rfl) (fun w hSw => by (try dsimp only at hSw); go_simp; try with_reducible rfl) (by assumption) ?_
    simp only [Act.put, List.setIfInBounds_toArray, List.set_cons_zero, List.set_cons_succ]
    refine take_w 29 rfl (by kernel_rfl) (by kernel_rfl) (by kernel_rfl) (fun _ _ _ h => h) (by rfl) (fun w hSw => by (try dsimp only at hSw); go_simp; try with_reducible rfl) (by assumption) ?_
    simp only [Act.put, List.setIfInBounds_toArray, List.set_cons_zero, List.set_cons_succ]
    refine take_w 30 rfl (by kernel_rfl) (by kernel_rfl) (by kernel_rfl) (fun _ _ _ h => h) (by rfl) (fun w hSw => by (try dsimp only at hSw); go_simp; try with_reducible rfl) (by assumption) ?_
    simp only [Act.put, List.setIfInBounds_toArray, List.set_cons_zero, List.set_cons_succ]
    refine take_s 31 rfl (by kernel_rfl) (by kernel_rfl) (by kernel_rfl) (fun _ _ _ h => h) (by rfl) (by assumption) ?_
    simp only [Act.put, List.setIfInBounds_toArray, List.set_cons_zero, List.set_cons_succ]
    refine take_s 32 rfl (by kernel_rfl) (by kernel_rfl) (by kernel_rfl) (fun _ _ _ h => h) (by rfl) (by assumption) ?_
    simp only [Act.put, List.setIfInBounds_toArray, List.set_cons_zero, List.set_cons_succ]
    refine take_s 33 rfl (by kernel_rfl) (by kernel_rfl) (by kernel_rfl) (fun _ _ _ h => h) (by rfl) (by assumption) ?_
    simp only [Act.put, List.setIfInBounds_toArray, List.set_cons_zero, List.set_cons_succ]
    refine take_s 34 rfl (by kernel_rfl) (by kernel_rfl) (by kernel_rfl) (fun _ _ _ h => h) (by rfl) (by assumption) ?_
    simp only [Act.put, List.setIfInBounds_toArray, List.set_cons_zero, List.set_cons_succ]
    refine take_s 35 rfl (by kernel_rfl) (by kernel_rfl) (by kernel_rfl) (fun _ _ _ h => h) (by rfl) (by assumption) ?_
    simp only [Act.put, List.setIfInBounds_toArray, List.set_cons_zero, List.set_cons_succ]
    refine take_s 36 rfl (by kernel_rfl) (by kernel_rfl) (by kernel_rfl) (fun _ _ _ h => h) (by rfl) (by assumption) ?_
    simp only [Act.put, List.setIfInBounds_toArray, List.set_cons_zero, List.set_cons_succ]
    refine take_w 37 rfl (by kernel_rfl) (by kernel_rfl) (by kernel_rfl) (fun _ _ _ h => h) (by rfl) (fun w hSw => by (try dsimp only at hSw); go_simp; try with_reducible rfl) (by assumption) ?_
    simp only [Act.put, List.setIfInBounds_toArray, List.set_cons_zero, List.set_cons_succ]
    refine take_w 38 rfl (by kernel_rfl) (by kernel_rfl) (by kernel_rfl) (fun _ _ _ h => h) (by rfl) (fun w hSw => by (try dsimp only at hSw); go_simp; try with_reducible rfl) (by assumption) ?_
    simp only [Act.put, List.setIfInBounds_toArray, List.set_cons_zero, List.set_cons_succ]
    refine wpAnyH_done (by kernel_rfl) ?_ _
    go_wp2_with fail
    go_meet
    exact ⟨rfl, _, Lib.hid s7⟩
  case rest =>
    obtain ⟨rfl, l, HS⟩ := hcut
    clear s1 s2 s3 s4 s4d c0 c1 c2 c3 d0 d1 d2 d3
    have s8 := HS.out
    go_wp2_with (first
      | (go_at_call 13; (with_reducible refine (A1 _).out.mono ?_); rintro e w11 ⟨rfl, hb⟩; have s9 := N1.out _ _ (s8.over hb); clear hb)
      | (go_at_call 14; (with_reducible refine (A2 _).out.mono ?_); rintro e w12 ⟨rfl, hb⟩; have s10 := N2.out _ _ (s9.over hb); clear hb)
      | (go_at_call 15; (with_reducible refine (B1 _).out.mono ?_); rintro e w13 ⟨rfl, hb⟩; have s11 := N3.out _ _ (s10.over hb); clear hb)
      | (go_at_call 16; (with_reducible refine (B2 _).out.mono ?_); rintro e w14 ⟨rfl, hb⟩; have s12 := N4.out _ _ (s11.over hb); clear hb)
      | (go_at_call 15; (with_reducible refine (C1 _).out.mono ?_); rintro e w15 ⟨rfl, hb⟩; have s13 := N5.out _ _ (s12.over hb); clear hb)
      | (go_at_call 16; (with_reducible refine (C2 _).out.mono ?_); rintro e w16 ⟨rfl, hb⟩; have s14 := N6.out _ _ (s13.over hb); clear hb; have s14d := DW.out _ _ s14; have p0 := CA.out _ _ _ _ _ _ _ _ s14; have p1 := CA.out _ _ _ _ _ _ _ _ s14d))
    clear s8 s9 s10 s11 s12 s13
    go_region_held3 (fun W => (W.cell? ⟨w11.heap.size, 0, none⟩ = some (.int .i64 y0) ∧ W.cell? ⟨w11.heap.size, 1, none⟩ = some (.int .i64 y1) ∧ W.cell? ⟨w11.heap.size, 2, none⟩ = some (.int .i64 y2) ∧ W.cell? ⟨w11.heap.size, 3, none⟩ = some (.int .i64 y3)) ∧ (W.cell? ⟨w12.heap.size, 0, none⟩ = some (.int .i64 y0) ∧ W.cell? ⟨w12.heap.size, 1, none⟩ = some (.int .i64 y1) ∧ W.cell? ⟨w12.heap.size, 2, none⟩ = some (.int .i64 y2) ∧ W.cell? ⟨w12.heap.size, 3, none⟩ = some (.int .i64 y3)) ∧ (W.cell? ⟨w13.heap.size, 0, none⟩ = some (.int .i64 z0) ∧ W.cell? ⟨w13.heap.size, 1, none⟩ = some (.int .i64 z1) ∧ W.cell? ⟨w13.heap.size, 2, none⟩ = some (.int .i64 z2) ∧ W.cell? ⟨w13.heap.size, 3, none⟩ = some (.int .i64 z3)) ∧ (W.cell? ⟨w14.heap.size, 0, none⟩ = some (.int .i64 z0) ∧ W.cell? ⟨w14.heap.size, 1, none⟩ = some (.int .i64 z1) ∧ W.cell? ⟨w14.heap.size, 2, none⟩ = some (.int .i64 z2) ∧ W.cell? ⟨w14.heap.size, 3, none⟩ = some (.int .i64 z3)) ∧ (W.cell? ⟨w15.heap.size, 0, none⟩ = some (.int .i64 u0) ∧ W.cell? ⟨w15.heap.size, 1, none⟩ = some (.int .i64 u1) ∧ W.cell? ⟨w15.heap.size, 2, none⟩ = some (.int .i64 u2) ∧ W.cell? ⟨w15.heap.size, 3, none⟩ = some (.int .i64 u3)) ∧ (W.cell? ⟨w16.heap.size, 0, none⟩ = some (.int .i64 u0) ∧ W.cell? ⟨w16.heap.size, 1, none⟩ = some (.int .i64 u1) ∧ W.cell? ⟨w16.heap.size, 2, none⟩ = some (.int .i64 u2) ∧ W.cell? ⟨w16.heap.size, 3, none⟩ = some (.int .i64 u3)))
      (first | exact p0 | exact p1 | exact CA.out _ _ _ _ _ _ _ _ (by assumption))
      ((first
        | (go_at_call 17; (with_reducible refine (R1 _).out.mono ?_); rintro e w17 ⟨rfl, hb⟩; have s15 := Bks.over (by assumption) hb; clear hb)
        | (go_at_call 17; (with_reducible refine (R2 _).out.mono ?_); rintro e w18 ⟨rfl, hb⟩; have s16 := Bks.over (by assumption) hb; clear hb)
        | (go_at_call 17; (with_reducible refine (R3 _).out.mono ?_); rintro e w19 ⟨rfl, hb⟩; have s17 := Bks.over (by assumption) hb; clear hb)))
    all_goals
      go_wp2
      go_ret
      exact ⟨rfl, BW.out _ _ (by assumption)⟩

set_option maxRecDepth 100000 in
set_option maxHeartbeats 8000000 in
theorem tells_bad (w : World) (m : Mt) (a b : ByteArray) (ha : a.size ≤ 600) (hb : b.size ≤ 600) (hm : ¬ m.ok) :
    Calls Try.prog 3 #[m.v, .string a, .string b] w fun r w' => r = .returned (.bool true) ∧ Below w.heap.size w w' := by
  have K := fun w' => Lib.hid (alive_any6 w')
  have k1 : decide ((600 : Int) < (a.size : Int)) = false := decide_eq_false (by omega)
  have k1' : decide (600 < a.size) = false := decide_eq_false (by omega)
  have k2 : decide ((600 : Int) < (b.size : Int)) = false := decide_eq_false (by omega)
  have k2' : decide (600 < b.size) = false := decide_eq_false (by omega)
  have PL := fun W => Lib.hid (plain_any W m)
  have V1 := fun W => Lib.hid (mvalid_any W m)
  have V2 := fun W => Lib.hid (rmvalid_any W m)
  rw [decide_eq_false hm] at V1 V2
  have L1 := fun W => Lib.hid (mlay_bad W m hm)
  have C1 := fun W => Lib.hid (choose_any W ⟨#[]⟩ a)
  have C2 := fun W => Lib.hid (rchoose_any W ⟨#[]⟩ a)
  have R3 := fun W => Lib.hid (real_any W (chM ⟨#[]⟩ a))
  have E3 := fun W : World => meta_eql W (chM ⟨#[]⟩ a) (chM ⟨#[]⟩ a)
  rw [Mt.same_self] at E3
  generalize chM ⟨#[]⟩ a = M3 at *
  generalize chE ⟨#[]⟩ a = f3 at *
  have A1 := fun W => Lib.hid (mread_any W a)
  have A2 := fun W => Lib.hid (rmread_any W a)
  have R1 := fun W => Lib.hid (real_any W (readM a))
  have E1 := fun W : World => meta_eql W (readM a) (readM a)
  have B1 := fun W => Lib.hid (choose_any W a b)
  have B2 := fun W => Lib.hid (rchoose_any W a b)
  have R2 := fun W => Lib.hid (real_any W (chM a b))
  have E2 := fun W : World => meta_eql W (chM a b) (chM a b)
  rw [Mt.same_self] at E1 E2
  generalize chM a b = M2 at *
  generalize chE a b = f2 at *
  generalize readM a = M1 at *
  generalize readR a = f1 at *
  clear ha hb hm
  have HST := Lib.hid ((Bks.nil w).new m.cells 23)
  have DW := Lib.hid (show ∀ l W, Bks w l W → Bks w l W.drew from fun l W k => k.over ((Below.refl _ _).drew))
  have NW := Lib.hid (show ∀ l W, Bks w l W → ∀ (x : Mt) t, Bks w ((W.heap.size, x.cells, t) :: l) (W.alloc (.cells x.cells t)) from fun l W k x t => k.new _ _)
  have CM := Lib.hid (show ∀ b0 t l W, Bks w ((b0, m.cells, t) :: l) W → _ from fun b0 t l W k => cells4 (k.at_ 0 rfl))
  have CA := Lib.hid (show ∀ b1 b2 b3 b4 b5 b6 l W, Bks w ((b6, M3.cells, 29) :: (b5, M3.cells, 23) :: (b4, M2.cells, 29) :: (b3, M2.cells, 23) :: (b2, M1.cells, 29) :: (b1, M1.cells, 23) :: l) W → _ ∧ _ ∧ _ ∧ _ ∧ _ ∧ _ from fun b1 b2 b3 b4 b5 b6 l W k => ⟨cells4 (k.at_ 5 rfl), cells4 (k.at_ 4 rfl), cells4 (k.at_ 3 rfl), cells4 (k.at_ 2 rfl), cells4 (k.at_ 1 rfl), cells4 (k.at_ 0 rfl)⟩)
  have BW := Lib.hid (show ∀ l W, Bks w l W → Below w.heap.size w W from fun l W k => k.below)
  obtain ⟨x0, x1, x2, x3⟩ := m
  obtain ⟨y0, y1, y2, y3⟩ := M1
  obtain ⟨z0, z1, z2, z3⟩ := M2
  obtain ⟨u0, u1, u2, u3⟩ := M3
  have N1 := Lib.hid (show ∀ l W, Bks w l W → _ from fun l W k => NW.out l W k ⟨y0, y1, y2, y3⟩ 23)
  have N2 := Lib.hid (show ∀ l W, Bks w l W → _ from fun l W k => NW.out l W k ⟨y0, y1, y2, y3⟩ 29)
  have N3 := Lib.hid (show ∀ l W, Bks w l W → _ from fun l W k => NW.out l W k ⟨z0, z1, z2, z3⟩ 23)
  have N4 := Lib.hid (show ∀ l W, Bks w l W → _ from fun l W k => NW.out l W k ⟨z0, z1, z2, z3⟩ 29)
  have N5 := Lib.hid (show ∀ l W, Bks w l W → _ from fun l W k => NW.out l W k ⟨u0, u1, u2, u3⟩ 23)
  have N6 := Lib.hid (show ∀ l W, Bks w l W → _ from fun l W k => NW.out l W k ⟨u0, u1, u2, u3⟩ 29)
  simp only at *
  unfold Mt.v Mt.cells at *
  clear NW
  go_enter Try.func3, Try.ntmps3
  go_wp2_with (first
    | (go_at_call 6; (with_reducible refine (K _).out.mono ?_); rintro e w1 ⟨rfl, hb⟩; have s1 := HST.out.over hb; clear hb; obtain ⟨c0, c1, c2, c3⟩ := CM.out _ _ _ _ s1)
    | (go_at_call 7; (with_reducible refine (L1 _).out.mono ?_); rintro e w2 ⟨rfl, hb⟩; have s2 := s1.over hb; clear hb; obtain ⟨c0, c1, c2, c3⟩ := CM.out _ _ _ _ s2)
    | (go_at_call 9; (with_reducible refine (PL _).out.mono ?_); rintro e w3 ⟨rfl, hb⟩; have s3 := s2.over hb; clear hb)
    | (go_at_call 8; (with_reducible refine (V2 _).out.mono ?_); rintro e w4 ⟨rfl, hb⟩; have s4 := s3.over hb; have s4d := DW.out _ _ s4; clear hb; have c4 := CM.out _ _ _ _ s4d; obtain ⟨c0, c1, c2, c3⟩ := CM.out _ _ _ _ s4))
  obtain ⟨d0, d1, d2, d3⟩ := c4
  go_cut [81] from 43 to 81 (fun v W => v = .bool false ∧ ∃ l, Hid (Bks w l W))
  case first =>
    refine wp_region_held_drew (S := fun W => W.cell? ⟨w.heap.size, 0, none⟩ = some (.int .i64 x0) ∧ W.cell? ⟨w.heap.size, 1, none⟩ = some (.int .i64 x1) ∧ W.cell? ⟨w.heap.size, 2, none⟩ = some (.int .i64 x2) ∧ W.cell? ⟨w.heap.size, 3, none⟩ = some (.int .i64 x3)) (by kernel_rfl) (CM.out _ _ _ _ s4d) (fun hHeld => ?_)
    refine take_w 0 rfl (by kernel_rfl) (by kernel_rfl) (by kernel_rfl) (fun _ _ _ h => h) (by rfl) (fun w hSw => by (try dsimp only at hSw); go_simp; try with_reducible rfl) (by assumption) ?_
    simp only [Act.put, List.setIfInBounds_toArray, List.set_cons_zero, List.set_cons_succ]
    refine take_w 2 rfl (by kernel_rfl) (by kernel_rfl) (by kernel_rfl) (fun _ _ _ h => h) (by rfl) (fun w hSw => by (try dsimp only at hSw); go_simp; try with_reducible rfl) (by assumption) ?_
    simp only [Act.put, List.setIfInBounds_toArray, List.set_cons_zero, List.set_cons_succ]
    refine do_one 1 rfl (by kernel_rfl) (by rfl) (fun K hK => ?_)
    go_simp
    go_at_call 10; (with_reducible refine (V1 _).out.mono ?_); rintro e w5 ⟨rfl, hb⟩; have s5 := s4d.over hb; clear hb
    go_wp2_with fail
    refine hK.out _ _ (CM.out _ _ _ _ s5) (fun hHeld => ?_)
    clear hK K
    try simp only [Act.put, List.setIfInBounds_toArray, List.set_cons_zero, List.set_cons_succ]
    refine take_w 3 rfl (by kernel_rfl) (by kernel_rfl) (by kernel_rfl) (fun _ _ _ h => h) (by rfl) (fun w hSw => by (try dsimp only at hSw); go_simp; try with_reducible rfl) (by assumption) ?_
    simp only [Act.put, List.setIfInBounds_toArray, List.set_cons_zero, List.set_cons_succ]
    refine take_w 4 rfl (by kernel_rfl) (by kernel_rfl) (by kernel_rfl) (fun _ _ _ h => h) (by rfl) (fun w hSw => by (try dsimp only at hSw); go_simp; try with_reducible rfl) (by assumption) ?_
    simp only [Act.put, List.setIfInBounds_toArray, List.set_cons_zero, List.set_cons_succ]
    refine take_w 5 rfl (by kernel_rfl) (by kernel_rfl) (by kernel_rfl) (fun _ _ _ h => h) (by rfl) (fun w hSw => by (try dsimp only at hSw); go_simp; try with_reducible rfl) (by assumption) ?_
    simp only [Act.put, List.setIfInBounds_toArray, List.set_cons_zero, List.set_cons_succ]
    refine take_w 6 rfl (by kernel_rfl) (by kernel_rfl) (by kernel_rfl) (fun _ _ _ h => h) (by rfl) (fun w hSw => by (try dsimp only at hSw); go_simp; try with_reducible rfl) (by assumption) ?_
    simp only [Act.put, List.setIfInBounds_toArray, List.set_cons_zero, List.set_cons_succ]
    refine take_s 7 rfl (by kernel_rfl) (by kernel_rfl) (by kernel_rfl) (fun _ _ _ h => h) (by rfl) (by assumption) ?_
    simp only [Act.put, List.setIfInBounds_toArray, List.set_cons_zero, List.set_cons_succ]
    refine take_s 8 rfl (by kernel_rfl) (by kernel_rfl) (by kernel_rfl) (fun _ _ _ h => h) (by rfl) (by assumption) ?_
    simp only [Act.put, List.setIfInBounds_toArray, List.set_cons_zero, List.set_cons_succ]
    refine take_s 9 rfl (by kernel_rfl) (by kernel_rfl) (by kernel_rfl) (fun _ _ _ h => h) (by rfl) (by assumption) ?_
    simp only [Act.put, List.setIfInBounds_toArray, List.set_cons_zero, List.set_cons_succ]
    refine take_s 10 rfl (by kernel_rfl) (by kernel_rfl) (by kernel_rfl) (fun _ _ _ h => h) (by rfl) (by assumption) ?_
    simp only [Act.put, List.setIfInBounds_toArray, List.set_cons_zero, List.set_cons_succ]
    refine take_s 11 rfl (by kernel_rfl) (by kernel_rfl) (by kernel_rfl) (fun _ _ _ h => h) (by rfl) (by assumption) ?_
    simp only [Act.put, List.setIfInBounds_toArray, List.set_cons_zero, List.set_cons_succ]
    refine take_s 12 rfl (by kernel_rfl) (by kernel_rfl) (by kernel_rfl) (fun _ _ _ h => h) (by rfl) (by assumption) ?_
    simp only [Act.put, List.setIfInBounds_toArray, List.set_cons_zero, List.set_cons_succ]
    refine take_s 13 rfl (by kernel_rfl) (by kernel_rfl) (by kernel_rfl) (fun _ _ _ h => h) (by rfl) (by assumption) ?_
    simp only [Act.put, List.setIfInBounds_toArray, List.set_cons_zero, List.set_cons_succ]
    refine take_s 14 rfl (by kernel_rfl) (by kernel_rfl) (by kernel_rfl) (fun _ _ _ h => h) (by rfl) (by assumption) ?_
    simp only [Act.put, List.setIfInBounds_toArray, List.set_cons_zero, List.set_cons_succ]
    refine take_s 15 rfl (by kernel_rfl) (by kernel_rfl) (by kernel_rfl) (fun _ _ _ h => h) (by rfl) (by assumption) ?_
    simp only [Act.put, List.setIfInBounds_toArray, List.set_cons_zero, List.set_cons_succ]
    refine take_s 16 rfl (by kernel_rfl) (by kernel_rfl) (by kernel_rfl) (fun _ _ _ h => h) (by rfl) (by assumption) ?_
    simp only [Act.put, List.setIfInBounds_toArray, List.set_cons_zero, List.set_cons_succ]
    refine take_s 17 rfl (by kernel_rfl) (by kernel_rfl) (by kernel_rfl) (fun _ _ _ h => h) (by rfl) (by assumption) ?_
    simp only [Act.put, List.setIfInBounds_toArray, List.set_cons_zero, List.set_cons_succ]
    refine take_s 18 rfl (by kernel_rfl) (by kernel_rfl) (by kernel_rfl) (fun _ _ _ h => h) (by rfl) (by assumption) ?_
    simp only [Act.put, List.setIfInBounds_toArray, List.set_cons_zero, List.set_cons_succ]
    refine take_s 19 rfl (by kernel_rfl) (by kernel_rfl) (by kernel_rfl) (fun _ _ _ h => h) (by rfl) (by assumption) ?_
    simp only [Act.put, List.setIfInBounds_toArray, List.set_cons_zero, List.set_cons_succ]
    refine take_s 20 rfl (by kernel_rfl) (by kernel_rfl) (by kernel_rfl) (fun _ _ _ h => h) (by rfl) (by assumption) ?_
    simp only [Act.put, List.setIfInBounds_toArray, List.set_cons_zero, List.set_cons_succ]
    refine take_s 21 rfl (by kernel_rfl) (by kernel_rfl) (by kernel_rfl) (fun _ _ _ h => h) (by rfl) (by assumption) ?_
    simp only [Act.put, List.setIfInBounds_toArray, List.set_cons_zero, List.set_cons_succ]
    refine take_s 22 rfl (by kernel_rfl) (by kernel_rfl) (by kernel_rfl) (fun _ _ _ h => h) (by rfl) (by assumption) ?_
    simp only [Act.put, List.setIfInBounds_toArray, List.set_cons_zero, List.set_cons_succ]
    refine take_s 23 rfl (by kernel_rfl) (by kernel_rfl) (by kernel_rfl) (fun _ _ _ h => h) (by rfl) (by assumption) ?_
    simp only [Act.put, List.setIfInBounds_toArray, List.set_cons_zero, List.set_cons_succ]
    refine take_s 24 rfl (by kernel_rfl) (by kernel_rfl) (by kernel_rfl) (fun _ _ _ h => h) (by rfl) (by assumption) ?_
    simp only [Act.put, List.setIfInBounds_toArray, List.set_cons_zero, List.set_cons_succ]
    refine take_w 25 rfl (by kernel_rfl) (by kernel_rfl) (by kernel_rfl) (fun _ _ _ h => h) (by rfl) (fun w hSw => by (try dsimp only at hSw); go_simp; try with_reducible rfl) (by assumption) ?_
    simp only [Act.put, List.setIfInBounds_toArray, List.set_cons_zero, List.set_cons_succ]
    refine take_w 26 rfl (by kernel_rfl) (by kernel_rfl) (by kernel_rfl) (fun _ _ _ h => h) (by rfl) (fun w hSw => by (try dsimp only at hSw); go_simp; try with_reducible rfl) (by assumption) ?_
    simp only [Act.put, List.setIfInBounds_toArray, List.set_cons_zero, List.set_cons_succ]
    refine take_w 27 rfl (by kernel_rfl) (by kernel_rfl) (by kernel_rfl) (fun _ _ _ h => h) (by rfl) (fun w hSw => by (try dsimp only at hSw); go_simp; try with_reducible rfl) (by assumption) ?_
    simp only [Act.put, List.setIfInBounds_toArray, List.set_cons_zero, List.set_cons_succ]
    refine take_w 28 rfl (by kernel_rfl) (by kernel_rfl) (by kernel_rfl) (fun _ _ _ h => h) (by rfl) (fun w hSw => by (try dsimp only at hSw); go_simp; try with_reducible rfl) (by assumption) ?_
    simp only [Act.put, List.setIfInBounds_toArray, List.set_cons_zero, List.set_cons_succ]
    refine take_w 29 rfl (by kernel_rfl) (by kernel_rfl) (by kernel_rfl) (fun _ _ _ h => h) (by rfl) (fun w hSw => by (try dsimp only at hSw); go_simp; try with_reducible rfl) (by assumption) ?_
    simp only [Act.put, List.setIfInBounds_toArray, List.set_cons_zero, List.set_cons_succ]
    refine take_w 30 rfl (by kernel_rfl) (by kernel_rfl) (by kernel_rfl) (fun _ _ _ h => h) (by rfl) (fun w hSw => by (try dsimp only at hSw); go_simp; try with_reducible rfl) (by assumption) ?_
    simp only [Act.put, List.setIfInBounds_toArray, List.set_cons_zero, List.set_cons_succ]
    refine take_w 31 rfl (by kernel_rfl) (by kernel_rfl) (by kernel_rfl) (fun _ _ _ h => h) (by rfl) (fun w hSw => by (try dsimp only at hSw); go_simp; try with_reducible rfl) (by assumption) ?_
    simp only [Act.put, List.setIfInBounds_toArray, List.set_cons_zero, List.set_cons_succ]
    refine take_w 32 rfl (by kernel_rfl) (by kernel_rfl) (by kernel_rfl) (fun _ _ _ h => h) (by rfl) (fun w hSw => by (try dsimp only at hSw); go_simp; try with_reducible rfl) (by assumption) ?_
    simp only [Act.put, List.setIfInBounds_toArray, List.set_cons_zero, List.set_cons_succ]
    refine take_w 33 rfl (by kernel_rfl) (by kernel_rfl) (by kernel_rfl) (fun _ _ _ h => h) (by rfl) (fun w hSw => by (try dsimp only at hSw); go_simp; try with_reducible rfl) (by assumption) ?_
    simp only [Act.put, List.setIfInBounds_toArray, List.set_cons_zero, List.set_cons_succ]
    refine take_w 34 rfl (by kernel_rfl) (by kernel_rfl) (by kernel_rfl) (fun _ _ _ h => h) (by rfl) (fun w hSw => by (try dsimp only at hSw); go_simp; try with_reducible rfl) (by assumption) ?_
    simp only [Act.put, List.setIfInBounds_toArray, List.set_cons_zero, List.set_cons_succ]
    refine take_w 35 rfl (by kernel_rfl) (by kernel_rfl) (by kernel_rfl) (fun _ _ _ h => h) (by rfl) (fun w hSw => by (try dsimp only at hSw); go_simp; try with_reducible rfl) (by assumption) ?_
    simp only [Act.put, List.setIfInBounds_toArray, List.set_cons_zero, List.set_cons_succ]
    refine take_w 36 rfl (by kernel_rfl) (by kernel_rfl) (by kernel_rfl) (fun _ _ _ h => h) (by rfl) (fun w hSw => by (try dsimp only at hSw); go_simp; try with_reducible rfl) (by assumption) ?_
    simp only [Act.put, List.setIfInBounds_toArray, List.set_cons_zero, List.set_cons_succ]
    refine take_w 37 rfl (by kernel_rfl) (by kernel_rfl) (by kernel_rfl) (fun _ _ _ h => h) (by rfl) (fun w hSw => by (try dsimp only at hSw); go_simp; try with_reducible rfl) (by assumption) ?_
    simp only [Act.put, List.setIfInBounds_toArray, List.set_cons_zero, List.set_cons_succ]
    refine take_w 38 rfl (by kernel_rfl) (by kernel_rfl) (by kernel_rfl) (fun _ _ _ h => h) (by rfl) (fun w hSw => by (try dsimp only at hSw); go_simp; try with_reducible rfl) (by assumption) ?_
    simp only [Act.put, List.setIfInBounds_toArray, List.set_cons_zero, List.set_cons_succ]
    refine wpAnyH_done (by kernel_rfl) ?_ _
    go_wp2_with fail
    go_meet
    exact ⟨rfl, _, Lib.hid s5⟩
  case rest =>
    obtain ⟨rfl, l, HS⟩ := hcut
    clear s1 s2 s3 s4 s4d c0 c1 c2 c3 d0 d1 d2 d3
    have s8 := HS.out
    go_wp2_with (first
      | (go_at_call 13; (with_reducible refine (A1 _).out.mono ?_); rintro e w11 ⟨rfl, hb⟩; have s9 := N1.out _ _ (s8.over hb); clear hb)
      | (go_at_call 14; (with_reducible refine (A2 _).out.mono ?_); rintro e w12 ⟨rfl, hb⟩; have s10 := N2.out _ _ (s9.over hb); clear hb)
      | (go_at_call 15; (with_reducible refine (B1 _).out.mono ?_); rintro e w13 ⟨rfl, hb⟩; have s11 := N3.out _ _ (s10.over hb); clear hb)
      | (go_at_call 16; (with_reducible refine (B2 _).out.mono ?_); rintro e w14 ⟨rfl, hb⟩; have s12 := N4.out _ _ (s11.over hb); clear hb)
      | (go_at_call 15; (with_reducible refine (C1 _).out.mono ?_); rintro e w15 ⟨rfl, hb⟩; have s13 := N5.out _ _ (s12.over hb); clear hb)
      | (go_at_call 16; (with_reducible refine (C2 _).out.mono ?_); rintro e w16 ⟨rfl, hb⟩; have s14 := N6.out _ _ (s13.over hb); clear hb; have s14d := DW.out _ _ s14; have p0 := CA.out _ _ _ _ _ _ _ _ s14; have p1 := CA.out _ _ _ _ _ _ _ _ s14d))
    clear s8 s9 s10 s11 s12 s13
    go_region_held3 (fun W => (W.cell? ⟨w11.heap.size, 0, none⟩ = some (.int .i64 y0) ∧ W.cell? ⟨w11.heap.size, 1, none⟩ = some (.int .i64 y1) ∧ W.cell? ⟨w11.heap.size, 2, none⟩ = some (.int .i64 y2) ∧ W.cell? ⟨w11.heap.size, 3, none⟩ = some (.int .i64 y3)) ∧ (W.cell? ⟨w12.heap.size, 0, none⟩ = some (.int .i64 y0) ∧ W.cell? ⟨w12.heap.size, 1, none⟩ = some (.int .i64 y1) ∧ W.cell? ⟨w12.heap.size, 2, none⟩ = some (.int .i64 y2) ∧ W.cell? ⟨w12.heap.size, 3, none⟩ = some (.int .i64 y3)) ∧ (W.cell? ⟨w13.heap.size, 0, none⟩ = some (.int .i64 z0) ∧ W.cell? ⟨w13.heap.size, 1, none⟩ = some (.int .i64 z1) ∧ W.cell? ⟨w13.heap.size, 2, none⟩ = some (.int .i64 z2) ∧ W.cell? ⟨w13.heap.size, 3, none⟩ = some (.int .i64 z3)) ∧ (W.cell? ⟨w14.heap.size, 0, none⟩ = some (.int .i64 z0) ∧ W.cell? ⟨w14.heap.size, 1, none⟩ = some (.int .i64 z1) ∧ W.cell? ⟨w14.heap.size, 2, none⟩ = some (.int .i64 z2) ∧ W.cell? ⟨w14.heap.size, 3, none⟩ = some (.int .i64 z3)) ∧ (W.cell? ⟨w15.heap.size, 0, none⟩ = some (.int .i64 u0) ∧ W.cell? ⟨w15.heap.size, 1, none⟩ = some (.int .i64 u1) ∧ W.cell? ⟨w15.heap.size, 2, none⟩ = some (.int .i64 u2) ∧ W.cell? ⟨w15.heap.size, 3, none⟩ = some (.int .i64 u3)) ∧ (W.cell? ⟨w16.heap.size, 0, none⟩ = some (.int .i64 u0) ∧ W.cell? ⟨w16.heap.size, 1, none⟩ = some (.int .i64 u1) ∧ W.cell? ⟨w16.heap.size, 2, none⟩ = some (.int .i64 u2) ∧ W.cell? ⟨w16.heap.size, 3, none⟩ = some (.int .i64 u3)))
      (first | exact p0 | exact p1 | exact CA.out _ _ _ _ _ _ _ _ (by assumption))
      ((first
        | (go_at_call 17; (with_reducible refine (R1 _).out.mono ?_); rintro e w17 ⟨rfl, hb⟩; have s15 := Bks.over (by assumption) hb; clear hb)
        | (go_at_call 17; (with_reducible refine (R2 _).out.mono ?_); rintro e w18 ⟨rfl, hb⟩; have s16 := Bks.over (by assumption) hb; clear hb)
        | (go_at_call 17; (with_reducible refine (R3 _).out.mono ?_); rintro e w19 ⟨rfl, hb⟩; have s17 := Bks.over (by assumption) hb; clear hb)))
    all_goals
      go_wp2
      go_ret
      exact ⟨rfl, BW.out _ _ (by assumption)⟩

theorem tells_walk (w : World) (m : Mt) (a b : ByteArray) :
    Calls Try.prog 3 #[m.v, .string a, .string b] w fun r w' => r = .returned (.bool true) ∧ Below w.heap.size w w' := by
  by_cases h : a.size ≤ 600 ∧ b.size ≤ 600
  · by_cases hm : m.ok
    · exact tells_ok w m a b h.1 h.2 hm
    · exact tells_bad w m a b h.1 h.2 hm
  · exact tells_skip w m a b h

end Go.Proofs.Ytnmklhajpcnkoaa.P6
