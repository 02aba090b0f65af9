/-
  Texts of the proof of SaidKeeps8, side by side: Pg11.
-/
import Derived.Test.YtbkngnjkaledlaaGreatMk33
/-
  Package page's Read, by contracts.
-/
namespace Go.Proofs.YtbkngnjkaledlaaGreat.P5
open Go Go.RowKit Go.Lib Go.Proofs.YtbkngnjkaledlaaGreat.P0 Go.Proofs.YtbkngnjkaledlaaGreat.P2

/-- two blocks that hold a page's cells: the result's, and the one that is read into -/
structure RdSt (w0 : World) (r p : Nat) (cr cp : Array Value) (w : World) : Prop where
  res : w.heap[r]? = some (.cells cr 47 (0, 0))
  page : w.heap[p]? = some (.cells cp 47 (0, 0))
  ne : r ≠ p
  below : Below w0.heap.size w0 w
  rlo : w0.heap.size ≤ r
  plo : w0.heap.size ≤ p
theorem RdSt.over {w0 : World} {r p : Nat} {cr cp : Array Value} {w w' : World} (h : RdSt w0 r p cr cp w) (k : Below w.heap.size w w') : RdSt w0 r p cr cp w' :=
  ⟨by rw [k.block r (lt_of_block h.res)]; exact h.res, by rw [k.block p (lt_of_block h.page)]; exact h.page, h.ne, thenBelow h.below k, h.rlo, h.plo⟩
theorem RdSt.set {w0 : World} {r p : Nat} {cr cp : Array Value} {w : World} (h : RdSt w0 r p cr cp w) (j : Nat) (v : Value) : RdSt w0 r p cr (cp.setIfInBounds j v) (w.setCell ⟨p, j, none⟩ v) :=
  ⟨by rw [Below.heap_setCell _ _ _ _ h.ne]; exact h.res, set_at h.page j v, h.ne, h.below.trans ((Below.refl _ _).setCell h.plo v), h.rlo, h.plo⟩
theorem RdSt.cell {w0 : World} {r p : Nat} {cr cp : Array Value} {w : World} (h : RdSt w0 r p cr cp w) (j : Nat) : w.cell? ⟨p, j, none⟩ = cp[j]? := cell_at h.page j
theorem RdSt.free {w0 : World} {r p : Nat} {cr cp : Array Value} {w : World} (h : RdSt w0 r p cr cp w) (j : Nat) : w.frozen? ⟨p, j, none⟩ = false := free_at h.page j
theorem RdSt.rcell {w0 : World} {r p : Nat} {cr cp : Array Value} {w : World} (h : RdSt w0 r p cr cp w) (j : Nat) : w.cell? ⟨r, j, none⟩ = cr[j]? := cell_at h.res j
theorem RdSt.rfree {w0 : World} {r p : Nat} {cr cp : Array Value} {w : World} (h : RdSt w0 r p cr cp w) (j : Nat) : w.frozen? ⟨r, j, none⟩ = false := free_at h.res j
theorem RdSt.start (w : World) : RdSt w w.heap.size (w.heap.size + 1) Pg.zero.cells Pg.zero.cells ((w.alloc (.cells Pg.zero.cells 47)).alloc (.cells Pg.zero.cells 47)) := by
  refine ⟨?_, ?_, by omega, ((Below.refl _ _).alloc (Nat.le_refl _) _).alloc (by simp) _, by omega, by omega⟩
  · rw [Below.heap_alloc _ _ _ (by simp)]; exact new_at w _ _
  · have := new_at (w.alloc (.cells Pg.zero.cells 47)) Pg.zero.cells 47
    simpa using this

theorem page_result {fn : Func} {q u : Tmp} (h : fn.results = #[.cell q 47, .tmp u]) (tmps : Array Value) (w : World) (a : Nat) (cs : Array Value) (hq : tmps.getD q undef = .pointer (some ⟨a, 0, none⟩)) (hc : w.heap[a]? = some (.cells cs 47 (0, 0))) (hs : cs.size = 4) :
    (results fn tmps).run Tryz.prog w = .ok (.tuple #[.agg cs, tmps.getD u undef]) w := by
  have hi : (Tryz.prog.info? 47).map (·.size) = some cs.size := by rw [hs]; kernel_rfl
  rw [results_cell_tmp h, hq]
  have e1 : (asAddr (.pointer (some ⟨a, 0, none⟩))).run Tryz.prog w = .ok ⟨a, 0, none⟩ w := rfl
  rw [e1, Result.andThen_ok, run_loadVar_row (P := Tryz.prog) w a 47 47 cs (0, 0) _ hc Tryz.underlying47 rfl hi]
  rfl
theorem Pg.zero_cells : Pg.zero.cells = #[.int .i64 0, .int .i64 0, .int .i64 0, .string ⟨#[]⟩] := rfl

theorem read_len_any (w : World) (b : ByteArray) (h : b.size ≠ 256) :
    Calls Tryz.prog 67 #[.string b] w fun r w' => r = .returned (.tuple #[Pg.zero.v, .int .i64 5]) ∧ Below w.heap.size w w' := by
  have k1 : ((b.size : Int) != 256) = true := by simp; omega
  clear h
  go_enter Tryz.func67, Tryz.ntmps67
  go_wp2
  exact bodyPost_ret (page_result rfl _ _ w.heap.size _ rfl (new_at w _ _) rfl) rfl ⟨rfl, below_new _ _⟩

theorem size_at (b : ByteArray) (h : 1 < b.size) : IntKind.i64.wrap (((b[1]'h).toNat : Nat) : Int) = (nOf b.data.toList : Int) := by
  have hk : (b[1]'h).toNat = nOf b.data.toList := by
    unfold nOf
    rw [List.getD_eq_getElem?_getD, List.getElem?_eq_getElem (by rw [text_len]; omega)]
    rfl
  have := (b[1]'h).toNat_lt
  rw [hk] at this
  rw [hk, IntKind.wrap_i64]
  omega

theorem read_long_any (w : World) (b : ByteArray) (h : b.size = 256) (hn : ¬ nOf b.data.toList ≤ 232) :
    Calls Tryz.prog 67 #[.string b] w fun r w' => r = .returned (.tuple #[Pg.zero.v, .int .i64 6]) ∧ Below w.heap.size w w' := by
  have k1 : ((b.size : Int) != 256) = false := by simp; omega
  have i1 : 1 < b.size := by omega
  have e1 := size_at b i1
  have k2 : decide ((232 : Int) < (nOf b.data.toList : Int)) = true := decide_eq_true (by omega)
  have k3 : decide (232 < nOf b.data.toList) = true := decide_eq_true (by omega)
  clear h hn
  go_enter Tryz.func67, Tryz.ntmps67
  go_wp2
  exact bodyPost_ret (page_result rfl _ _ w.heap.size _ rfl (new_at w _ _) rfl) rfl ⟨rfl, below_new _ _⟩

/-- b's page is read into block p -/
theorem RdSt.filled {w0 w : World} {r p : Nat} {b : ByteArray} (h : RdSt w0 r p Pg.zero.cells ((((Pg.zero.cells.setIfInBounds 0 (.int .i64 (kOf b.data.toList))).setIfInBounds 1 (.int .i64 (idOf b.data.toList))).setIfInBounds 2 (.int .i64 (txOf b.data.toList))).setIfInBounds 3 (.string (b.extract 16 (16 + nOf b.data.toList)))) w) : RdSt w0 r p Pg.zero.cells (Pg.of b).cells w := h

theorem RdSt.fin {w0 : World} {r p : Nat} {cp : Array Value} {w : World} (h : RdSt w0 r p Pg.zero.cells cp w) (n : Nat) (a b c d : Value) :
    ((((((w.drewN n).setCell ⟨r, 0, none⟩ a).setCell ⟨r, 1, none⟩ b).setCell ⟨r, 2, none⟩ c).setCell ⟨r, 3, none⟩ d).heap[r]? = some (.cells #[a, b, c, d] 47 (0, 0))) ∧ Below w0.heap.size w0 (((((w.drewN n).setCell ⟨r, 0, none⟩ a).setCell ⟨r, 1, none⟩ b).setCell ⟨r, 2, none⟩ c).setCell ⟨r, 3, none⟩ d) := by
  have h0 : (w.drewN n).heap[r]? = some (.cells Pg.zero.cells 47 (0, 0)) := h.res
  have hB : Below w0.heap.size w0 (w.drewN n) := ⟨h.below.os, h.below.tape, h.below.output, h.below.size, h.below.block⟩
  exact ⟨set_at (set_at (set_at (set_at h0 0 a) 1 b) 2 c) 3 d, (((hB.setCell h.rlo a).setCell h.rlo b).setCell h.rlo c).setCell h.rlo d⟩

set_option maxRecDepth 100000 in
set_option maxHeartbeats 4000000 in
theorem read_bad_any (w : World) (b : ByteArray) (h : b.size = 256) (hn : nOf b.data.toList ≤ 232) (ho : ¬ (Pg.of b).ok) :
    Calls Tryz.prog 67 #[.string b] w fun r w' => r = .returned (.tuple #[Pg.zero.v, .int .i64 6]) ∧ Below w.heap.size w w' := by
  have k1 : ((b.size : Int) != 256) = false := by simp; omega
  have i1 : 1 < b.size := by omega
  have e1 := size_at b i1
  have k2 : decide ((232 : Int) < (nOf b.data.toList : Int)) = false := decide_eq_false (by omega)
  have k3 : decide (232 < nOf b.data.toList) = false := decide_eq_false (by omega)
  have HF := fun W => Lib.hid (front_any W b (by omega) (by omega))
  have HC := fun W => Lib.hid (sClone_any (b.extract 16 (16 + nOf b.data.toList)) W (by rw [ByteArray.size_extract]; omega))
  have HL := fun W => Lib.hid (lay_bad W (Pg.of b) ho)
  have HST := Lib.hid (fun w1 hb => (RdSt.start w).over (w' := w1) hb)
  have n1 : (16 : Int) ≤ 16 + (nOf b.data.toList : Int) := by omega
  have n2 : 16 + (nOf b.data.toList : Int) ≤ (b.size : Int) := by omega
  have n3 : IntKind.i64.wrap (16 + (nOf b.data.toList : Int)) = 16 + (nOf b.data.toList : Int) := by rw [IntKind.wrap_i64]; omega
  have n4 : (248 : Int) ≤ (b.size : Int) := by omega
  have n5 : (252 : Int) ≤ (b.size : Int) := by omega
  rw [Pg.zero_cells] at HST
  unfold Pg.of Pg.v at *
  clear h hn ho
  generalize hK : kOf b.data.toList = K at *
  generalize hI : idOf b.data.toList = I at *
  generalize hT : txOf b.data.toList = T at *
  generalize hN : nOf b.data.toList = N at *

  clear hK hI hT hN
  go_enter Tryz.func67, Tryz.ntmps67
  go_wp2_with (first
    | (go_at_call 105; (with_reducible refine (HF _).out.mono ?_); rintro e w1 ⟨rfl, hb1⟩; have st1 := HST.out w1 hb1; have c0 := (st1.cell 0).trans (show _ = some (Value.int .i64 0) from rfl); have f0 := st1.free 0; have s1 := st1.set 0 (.int .i64 K); have c1 := (s1.cell 1).trans (show _ = some (Value.int .i64 0) from rfl); have f1 := s1.free 1; have s2 := s1.set 1 (.int .i64 I); have c2 := (s2.cell 2).trans (show _ = some (Value.int .i64 0) from rfl); have f2 := s2.free 2; have s3 := s2.set 2 (.int .i64 T))
    | (go_at_call 32; (with_reducible refine (HC _).out.mono ?_); rintro e w2 ⟨rfl, hb2⟩; have s4 := s3.over hb2; have c3 := (s4.cell 3).trans (show _ = some (Value.string ⟨#[]⟩) from rfl); have f3 := s4.free 3; have s5 := s4.set 3 (.string (b.extract 16 (16 + N))); have l0 := (s5.cell 0).trans (show _ = some (Value.int .i64 K) from rfl); have l1 := (s5.cell 1).trans (show _ = some (Value.int .i64 I) from rfl); have l2 := (s5.cell 2).trans (show _ = some (Value.int .i64 T) from rfl); have l3 := (s5.cell 3).trans (show _ = some (Value.string (b.extract 16 (16 + N))) from rfl))
    | (go_at_call 85; (with_reducible refine (HL _).out.mono ?_); rintro e w3 ⟨rfl, hb3⟩; have s6 := s5.over hb3; have r0 := (s6.rcell 0).trans (show _ = some (Value.int .i64 0) from rfl); have r1 := (s6.rcell 1).trans (show _ = some (Value.int .i64 0) from rfl); have r2 := (s6.rcell 2).trans (show _ = some (Value.int .i64 0) from rfl); have r3 := (s6.rcell 3).trans (show _ = some (Value.string ⟨#[]⟩) from rfl); have g0 := s6.rfree 0; have g1 := s6.rfree 1; have g2 := s6.rfree 2; have g3 := s6.rfree 3; have m0 := (s6.cell 0).trans (show _ = some (Value.int .i64 K) from rfl); have m1 := (s6.cell 1).trans (show _ = some (Value.int .i64 I) from rfl); have m2 := (s6.cell 2).trans (show _ = some (Value.int .i64 T) from rfl); have m3 := (s6.cell 3).trans (show _ = some (Value.string (b.extract 16 (16 + N))) from rfl)))
  go_quiet (fail)
  go_wp2
  obtain ⟨q1, q2⟩ := (show RdSt w w.heap.size (w.heap.size + 1) Pg.zero.cells _ _ from s6).fin nq (.int .i64 0) (.int .i64 0) (.int .i64 0) (.string ⟨#[]⟩)
  exact bodyPost_ret (page_result rfl _ _ w.heap.size _ rfl q1 rfl) rfl ⟨rfl, q2⟩

set_option maxRecDepth 100000 in
set_option maxHeartbeats 4000000 in
theorem read_fore_any (w : World) (b : ByteArray) (h : b.size = 256) (hn : nOf b.data.toList ≤ 232) (ho : (Pg.of b).ok) (hx : b.extract 0 248 ≠ (Pg.of b).sector.extract 0 248) :
    Calls Tryz.prog 67 #[.string b] w fun r w' => r = .returned (.tuple #[Pg.zero.v, .int .i64 6]) ∧ Below w.heap.size w w' := by
  have k1 : ((b.size : Int) != 256) = false := by simp; omega
  have i1 : 1 < b.size := by omega
  have e1 := size_at b i1
  have k2 : decide ((232 : Int) < (nOf b.data.toList : Int)) = false := decide_eq_false (by omega)
  have k3 : decide (232 < nOf b.data.toList) = false := decide_eq_false (by omega)
  have HF := fun W => Lib.hid (front_any W b (by omega) (by omega))
  have HC := fun W => Lib.hid (sClone_any (b.extract 16 (16 + nOf b.data.toList)) W (by rw [ByteArray.size_extract]; omega))
  have HL := fun W => Lib.hid (lay_ok W (Pg.of b) ho)
  have hS := Pg.sector_size ho
  have HST := Lib.hid (fun w1 hb => (RdSt.start w).over (w' := w1) hb)
  have n1 : (16 : Int) ≤ 16 + (nOf b.data.toList : Int) := by omega
  have n2 : 16 + (nOf b.data.toList : Int) ≤ (b.size : Int) := by omega
  have n3 : IntKind.i64.wrap (16 + (nOf b.data.toList : Int)) = 16 + (nOf b.data.toList : Int) := by rw [IntKind.wrap_i64]; omega
  have n4 : (248 : Int) ≤ (b.size : Int) := by omega
  have n5 : (252 : Int) ≤ (b.size : Int) := by omega
  rw [Pg.zero_cells] at HST
  have x1 := same_false hx
  clear hx
  generalize hSe : (Pg.of b).sector = S at *
  clear hSe
  have m4 : (248 : Int) ≤ (S.size : Int) := by omega
  have m5 : (252 : Int) ≤ (S.size : Int) := by omega
  clear hS
  unfold Pg.of Pg.v at *
  clear h hn ho
  generalize hK : kOf b.data.toList = K at *
  generalize hI : idOf b.data.toList = I at *
  generalize hT : txOf b.data.toList = T at *
  generalize hN : nOf b.data.toList = N at *

  clear hK hI hT hN
  go_enter Tryz.func67, Tryz.ntmps67
  go_wp2_with (first
    | (go_at_call 105; (with_reducible refine (HF _).out.mono ?_); rintro e w1 ⟨rfl, hb1⟩; have st1 := HST.out w1 hb1; have c0 := (st1.cell 0).trans (show _ = some (Value.int .i64 0) from rfl); have f0 := st1.free 0; have s1 := st1.set 0 (.int .i64 K); have c1 := (s1.cell 1).trans (show _ = some (Value.int .i64 0) from rfl); have f1 := s1.free 1; have s2 := s1.set 1 (.int .i64 I); have c2 := (s2.cell 2).trans (show _ = some (Value.int .i64 0) from rfl); have f2 := s2.free 2; have s3 := s2.set 2 (.int .i64 T))
    | (go_at_call 32; (with_reducible refine (HC _).out.mono ?_); rintro e w2 ⟨rfl, hb2⟩; have s4 := s3.over hb2; have c3 := (s4.cell 3).trans (show _ = some (Value.string ⟨#[]⟩) from rfl); have f3 := s4.free 3; have s5 := s4.set 3 (.string (b.extract 16 (16 + N))); have l0 := (s5.cell 0).trans (show _ = some (Value.int .i64 K) from rfl); have l1 := (s5.cell 1).trans (show _ = some (Value.int .i64 I) from rfl); have l2 := (s5.cell 2).trans (show _ = some (Value.int .i64 T) from rfl); have l3 := (s5.cell 3).trans (show _ = some (Value.string (b.extract 16 (16 + N))) from rfl))
    | (go_at_call 85; (with_reducible refine (HL _).out.mono ?_); rintro e w3 ⟨rfl, hb3⟩; have s6 := s5.over hb3; have r0 := (s6.rcell 0).trans (show _ = some (Value.int .i64 0) from rfl); have r1 := (s6.rcell 1).trans (show _ = some (Value.int .i64 0) from rfl); have r2 := (s6.rcell 2).trans (show _ = some (Value.int .i64 0) from rfl); have r3 := (s6.rcell 3).trans (show _ = some (Value.string ⟨#[]⟩) from rfl); have g0 := s6.rfree 0; have g1 := s6.rfree 1; have g2 := s6.rfree 2; have g3 := s6.rfree 3; have m0 := (s6.cell 0).trans (show _ = some (Value.int .i64 K) from rfl); have m1 := (s6.cell 1).trans (show _ = some (Value.int .i64 I) from rfl); have m2 := (s6.cell 2).trans (show _ = some (Value.int .i64 T) from rfl); have m3 := (s6.cell 3).trans (show _ = some (Value.string (b.extract 16 (16 + N))) from rfl)))
  go_quiet (fail)
  go_wp2
  obtain ⟨q1, q2⟩ := (show RdSt w w.heap.size (w.heap.size + 1) Pg.zero.cells _ _ from s6).fin nq (.int .i64 0) (.int .i64 0) (.int .i64 0) (.string ⟨#[]⟩)
  exact bodyPost_ret (page_result rfl _ _ w.heap.size _ rfl q1 rfl) rfl ⟨rfl, q2⟩

set_option maxRecDepth 100000 in
set_option maxHeartbeats 4000000 in
theorem read_end_any (w : World) (b : ByteArray) (h : b.size = 256) (hn : nOf b.data.toList ≤ 232) (ho : (Pg.of b).ok) (hx : b.extract 0 248 = (Pg.of b).sector.extract 0 248) (hy : b.extract 252 b.size ≠ (Pg.of b).sector.extract 252 (Pg.of b).sector.size) :
    Calls Tryz.prog 67 #[.string b] w fun r w' => r = .returned (.tuple #[Pg.zero.v, .int .i64 6]) ∧ Below w.heap.size w w' := by
  have k1 : ((b.size : Int) != 256) = false := by simp; omega
  have i1 : 1 < b.size := by omega
  have e1 := size_at b i1
  have k2 : decide ((232 : Int) < (nOf b.data.toList : Int)) = false := decide_eq_false (by omega)
  have k3 : decide (232 < nOf b.data.toList) = false := decide_eq_false (by omega)
  have HF := fun W => Lib.hid (front_any W b (by omega) (by omega))
  have HC := fun W => Lib.hid (sClone_any (b.extract 16 (16 + nOf b.data.toList)) W (by rw [ByteArray.size_extract]; omega))
  have HL := fun W => Lib.hid (lay_ok W (Pg.of b) ho)
  have hS := Pg.sector_size ho
  have HST := Lib.hid (fun w1 hb => (RdSt.start w).over (w' := w1) hb)
  have n1 : (16 : Int) ≤ 16 + (nOf b.data.toList : Int) := by omega
  have n2 : 16 + (nOf b.data.toList : Int) ≤ (b.size : Int) := by omega
  have n3 : IntKind.i64.wrap (16 + (nOf b.data.toList : Int)) = 16 + (nOf b.data.toList : Int) := by rw [IntKind.wrap_i64]; omega
  have n4 : (248 : Int) ≤ (b.size : Int) := by omega
  have n5 : (252 : Int) ≤ (b.size : Int) := by omega
  rw [Pg.zero_cells] at HST
  have x1 := same_true hx
  have x2 := same_false hy
  clear hx hy
  generalize hSe : (Pg.of b).sector = S at *
  clear hSe
  have m4 : (248 : Int) ≤ (S.size : Int) := by omega
  have m5 : (252 : Int) ≤ (S.size : Int) := by omega
  clear hS
  unfold Pg.of Pg.v at *
  clear h hn ho
  generalize hK : kOf b.data.toList = K at *
  generalize hI : idOf b.data.toList = I at *
  generalize hT : txOf b.data.toList = T at *
  generalize hN : nOf b.data.toList = N at *

  clear hK hI hT hN
  go_enter Tryz.func67, Tryz.ntmps67
  go_wp2_with (first
    | (go_at_call 105; (with_reducible refine (HF _).out.mono ?_); rintro e w1 ⟨rfl, hb1⟩; have st1 := HST.out w1 hb1; have c0 := (st1.cell 0).trans (show _ = some (Value.int .i64 0) from rfl); have f0 := st1.free 0; have s1 := st1.set 0 (.int .i64 K); have c1 := (s1.cell 1).trans (show _ = some (Value.int .i64 0) from rfl); have f1 := s1.free 1; have s2 := s1.set 1 (.int .i64 I); have c2 := (s2.cell 2).trans (show _ = some (Value.int .i64 0) from rfl); have f2 := s2.free 2; have s3 := s2.set 2 (.int .i64 T))
    | (go_at_call 32; (with_reducible refine (HC _).out.mono ?_); rintro e w2 ⟨rfl, hb2⟩; have s4 := s3.over hb2; have c3 := (s4.cell 3).trans (show _ = some (Value.string ⟨#[]⟩) from rfl); have f3 := s4.free 3; have s5 := s4.set 3 (.string (b.extract 16 (16 + N))); have l0 := (s5.cell 0).trans (show _ = some (Value.int .i64 K) from rfl); have l1 := (s5.cell 1).trans (show _ = some (Value.int .i64 I) from rfl); have l2 := (s5.cell 2).trans (show _ = some (Value.int .i64 T) from rfl); have l3 := (s5.cell 3).trans (show _ = some (Value.string (b.extract 16 (16 + N))) from rfl))
    | (go_at_call 85; (with_reducible refine (HL _).out.mono ?_); rintro e w3 ⟨rfl, hb3⟩; have s6 := s5.over hb3; have r0 := (s6.rcell 0).trans (show _ = some (Value.int .i64 0) from rfl); have r1 := (s6.rcell 1).trans (show _ = some (Value.int .i64 0) from rfl); have r2 := (s6.rcell 2).trans (show _ = some (Value.int .i64 0) from rfl); have r3 := (s6.rcell 3).trans (show _ = some (Value.string ⟨#[]⟩) from rfl); have g0 := s6.rfree 0; have g1 := s6.rfree 1; have g2 := s6.rfree 2; have g3 := s6.rfree 3; have m0 := (s6.cell 0).trans (show _ = some (Value.int .i64 K) from rfl); have m1 := (s6.cell 1).trans (show _ = some (Value.int .i64 I) from rfl); have m2 := (s6.cell 2).trans (show _ = some (Value.int .i64 T) from rfl); have m3 := (s6.cell 3).trans (show _ = some (Value.string (b.extract 16 (16 + N))) from rfl)))
  go_quiet (fail)
  go_wp2
  obtain ⟨q1, q2⟩ := (show RdSt w w.heap.size (w.heap.size + 1) Pg.zero.cells _ _ from s6).fin nq (.int .i64 0) (.int .i64 0) (.int .i64 0) (.string ⟨#[]⟩)
  exact bodyPost_ret (page_result rfl _ _ w.heap.size _ rfl q1 rfl) rfl ⟨rfl, q2⟩

set_option maxRecDepth 100000 in
set_option maxHeartbeats 4000000 in
theorem read_sum_any (w : World) (b : ByteArray) (h : b.size = 256) (hn : nOf b.data.toList ≤ 232) (ho : (Pg.of b).ok) (hx : b.extract 0 248 = (Pg.of b).sector.extract 0 248) (hy : b.extract 252 b.size = (Pg.of b).sector.extract 252 (Pg.of b).sector.size) (hz : b ≠ (Pg.of b).sector) :
    Calls Tryz.prog 67 #[.string b] w fun r w' => r = .returned (.tuple #[Pg.zero.v, .int .i64 7]) ∧ Below w.heap.size w w' := by
  have k1 : ((b.size : Int) != 256) = false := by simp; omega
  have i1 : 1 < b.size := by omega
  have e1 := size_at b i1
  have k2 : decide ((232 : Int) < (nOf b.data.toList : Int)) = false := decide_eq_false (by omega)
  have k3 : decide (232 < nOf b.data.toList) = false := decide_eq_false (by omega)
  have HF := fun W => Lib.hid (front_any W b (by omega) (by omega))
  have HC := fun W => Lib.hid (sClone_any (b.extract 16 (16 + nOf b.data.toList)) W (by rw [ByteArray.size_extract]; omega))
  have HL := fun W => Lib.hid (lay_ok W (Pg.of b) ho)
  have hS := Pg.sector_size ho
  have HST := Lib.hid (fun w1 hb => (RdSt.start w).over (w' := w1) hb)
  have n1 : (16 : Int) ≤ 16 + (nOf b.data.toList : Int) := by omega
  have n2 : 16 + (nOf b.data.toList : Int) ≤ (b.size : Int) := by omega
  have n3 : IntKind.i64.wrap (16 + (nOf b.data.toList : Int)) = 16 + (nOf b.data.toList : Int) := by rw [IntKind.wrap_i64]; omega
  have n4 : (248 : Int) ≤ (b.size : Int) := by omega
  have n5 : (252 : Int) ≤ (b.size : Int) := by omega
  rw [Pg.zero_cells] at HST
  have x1 := same_true hx
  have x2 := same_true hy
  have x3 := same_false hz
  clear hx hy hz
  generalize hSe : (Pg.of b).sector = S at *
  clear hSe
  have m4 : (248 : Int) ≤ (S.size : Int) := by omega
  have m5 : (252 : Int) ≤ (S.size : Int) := by omega
  clear hS
  unfold Pg.of Pg.v at *
  clear h hn ho
  generalize hK : kOf b.data.toList = K at *
  generalize hI : idOf b.data.toList = I at *
  generalize hT : txOf b.data.toList = T at *
  generalize hN : nOf b.data.toList = N at *

  clear hK hI hT hN
  go_enter Tryz.func67, Tryz.ntmps67
  go_wp2_with (first
    | (go_at_call 105; (with_reducible refine (HF _).out.mono ?_); rintro e w1 ⟨rfl, hb1⟩; have st1 := HST.out w1 hb1; have c0 := (st1.cell 0).trans (show _ = some (Value.int .i64 0) from rfl); have f0 := st1.free 0; have s1 := st1.set 0 (.int .i64 K); have c1 := (s1.cell 1).trans (show _ = some (Value.int .i64 0) from rfl); have f1 := s1.free 1; have s2 := s1.set 1 (.int .i64 I); have c2 := (s2.cell 2).trans (show _ = some (Value.int .i64 0) from rfl); have f2 := s2.free 2; have s3 := s2.set 2 (.int .i64 T))
    | (go_at_call 32; (with_reducible refine (HC _).out.mono ?_); rintro e w2 ⟨rfl, hb2⟩; have s4 := s3.over hb2; have c3 := (s4.cell 3).trans (show _ = some (Value.string ⟨#[]⟩) from rfl); have f3 := s4.free 3; have s5 := s4.set 3 (.string (b.extract 16 (16 + N))); have l0 := (s5.cell 0).trans (show _ = some (Value.int .i64 K) from rfl); have l1 := (s5.cell 1).trans (show _ = some (Value.int .i64 I) from rfl); have l2 := (s5.cell 2).trans (show _ = some (Value.int .i64 T) from rfl); have l3 := (s5.cell 3).trans (show _ = some (Value.string (b.extract 16 (16 + N))) from rfl))
    | (go_at_call 85; (with_reducible refine (HL _).out.mono ?_); rintro e w3 ⟨rfl, hb3⟩; have s6 := s5.over hb3; have r0 := (s6.rcell 0).trans (show _ = some (Value.int .i64 0) from rfl); have r1 := (s6.rcell 1).trans (show _ = some (Value.int .i64 0) from rfl); have r2 := (s6.rcell 2).trans (show _ = some (Value.int .i64 0) from rfl); have r3 := (s6.rcell 3).trans (show _ = some (Value.string ⟨#[]⟩) from rfl); have g0 := s6.rfree 0; have g1 := s6.rfree 1; have g2 := s6.rfree 2; have g3 := s6.rfree 3; have m0 := (s6.cell 0).trans (show _ = some (Value.int .i64 K) from rfl); have m1 := (s6.cell 1).trans (show _ = some (Value.int .i64 I) from rfl); have m2 := (s6.cell 2).trans (show _ = some (Value.int .i64 T) from rfl); have m3 := (s6.cell 3).trans (show _ = some (Value.string (b.extract 16 (16 + N))) from rfl)))
  go_quiet (fail)
  go_wp2
  obtain ⟨q1, q2⟩ := (show RdSt w w.heap.size (w.heap.size + 1) Pg.zero.cells _ _ from s6).fin nq (.int .i64 0) (.int .i64 0) (.int .i64 0) (.string ⟨#[]⟩)
  exact bodyPost_ret (page_result rfl _ _ w.heap.size _ rfl q1 rfl) rfl ⟨rfl, q2⟩

set_option maxRecDepth 100000 in
set_option maxHeartbeats 4000000 in
theorem read_ok_any (w : World) (b : ByteArray) (h : b.size = 256) (hn : nOf b.data.toList ≤ 232) (ho : (Pg.of b).ok) (hx : b.extract 0 248 = (Pg.of b).sector.extract 0 248) (hy : b.extract 252 b.size = (Pg.of b).sector.extract 252 (Pg.of b).sector.size) (hz : b = (Pg.of b).sector) :
    Calls Tryz.prog 67 #[.string b] w fun r w' => r = .returned (.tuple #[(Pg.of b).v, .int .i64 0]) ∧ Below w.heap.size w w' := by
  have k1 : ((b.size : Int) != 256) = false := by simp; omega
  have i1 : 1 < b.size := by omega
  have e1 := size_at b i1
  have k2 : decide ((232 : Int) < (nOf b.data.toList : Int)) = false := decide_eq_false (by omega)
  have k3 : decide (232 < nOf b.data.toList) = false := decide_eq_false (by omega)
  have HF := fun W => Lib.hid (front_any W b (by omega) (by omega))
  have HC := fun W => Lib.hid (sClone_any (b.extract 16 (16 + nOf b.data.toList)) W (by rw [ByteArray.size_extract]; omega))
  have HL := fun W => Lib.hid (lay_ok W (Pg.of b) ho)
  have hS := Pg.sector_size ho
  have HST := Lib.hid (fun w1 hb => (RdSt.start w).over (w' := w1) hb)
  have n1 : (16 : Int) ≤ 16 + (nOf b.data.toList : Int) := by omega
  have n2 : 16 + (nOf b.data.toList : Int) ≤ (b.size : Int) := by omega
  have n3 : IntKind.i64.wrap (16 + (nOf b.data.toList : Int)) = 16 + (nOf b.data.toList : Int) := by rw [IntKind.wrap_i64]; omega
  have n4 : (248 : Int) ≤ (b.size : Int) := by omega
  have n5 : (252 : Int) ≤ (b.size : Int) := by omega
  rw [Pg.zero_cells] at HST
  have x1 := same_true hx
  have x2 := same_true hy
  have x3 := same_true hz
  clear hx hy hz
  generalize hSe : (Pg.of b).sector = S at *
  clear hSe
  have m4 : (248 : Int) ≤ (S.size : Int) := by omega
  have m5 : (252 : Int) ≤ (S.size : Int) := by omega
  clear hS
  unfold Pg.of Pg.v at *
  clear h hn ho
  generalize hK : kOf b.data.toList = K at *
  generalize hI : idOf b.data.toList = I at *
  generalize hT : txOf b.data.toList = T at *
  generalize hN : nOf b.data.toList = N at *

  clear hK hI hT hN
  go_enter Tryz.func67, Tryz.ntmps67
  go_wp2_with (first
    | (go_at_call 105; (with_reducible refine (HF _).out.mono ?_); rintro e w1 ⟨rfl, hb1⟩; have st1 := HST.out w1 hb1; have c0 := (st1.cell 0).trans (show _ = some (Value.int .i64 0) from rfl); have f0 := st1.free 0; have s1 := st1.set 0 (.int .i64 K); have c1 := (s1.cell 1).trans (show _ = some (Value.int .i64 0) from rfl); have f1 := s1.free 1; have s2 := s1.set 1 (.int .i64 I); have c2 := (s2.cell 2).trans (show _ = some (Value.int .i64 0) from rfl); have f2 := s2.free 2; have s3 := s2.set 2 (.int .i64 T))
    | (go_at_call 32; (with_reducible refine (HC _).out.mono ?_); rintro e w2 ⟨rfl, hb2⟩; have s4 := s3.over hb2; have c3 := (s4.cell 3).trans (show _ = some (Value.string ⟨#[]⟩) from rfl); have f3 := s4.free 3; have s5 := s4.set 3 (.string (b.extract 16 (16 + N))); have l0 := (s5.cell 0).trans (show _ = some (Value.int .i64 K) from rfl); have l1 := (s5.cell 1).trans (show _ = some (Value.int .i64 I) from rfl); have l2 := (s5.cell 2).trans (show _ = some (Value.int .i64 T) from rfl); have l3 := (s5.cell 3).trans (show _ = some (Value.string (b.extract 16 (16 + N))) from rfl))
    | (go_at_call 85; (with_reducible refine (HL _).out.mono ?_); rintro e w3 ⟨rfl, hb3⟩; have s6 := s5.over hb3; have r0 := (s6.rcell 0).trans (show _ = some (Value.int .i64 0) from rfl); have r1 := (s6.rcell 1).trans (show _ = some (Value.int .i64 0) from rfl); have r2 := (s6.rcell 2).trans (show _ = some (Value.int .i64 0) from rfl); have r3 := (s6.rcell 3).trans (show _ = some (Value.string ⟨#[]⟩) from rfl); have g0 := s6.rfree 0; have g1 := s6.rfree 1; have g2 := s6.rfree 2; have g3 := s6.rfree 3; have m0 := (s6.cell 0).trans (show _ = some (Value.int .i64 K) from rfl); have m1 := (s6.cell 1).trans (show _ = some (Value.int .i64 I) from rfl); have m2 := (s6.cell 2).trans (show _ = some (Value.int .i64 T) from rfl); have m3 := (s6.cell 3).trans (show _ = some (Value.string (b.extract 16 (16 + N))) from rfl)))
  go_quiet (fail)
  go_wp2
  obtain ⟨q1, q2⟩ := (show RdSt w w.heap.size (w.heap.size + 1) Pg.zero.cells _ _ from s6).fin nq (.int .i64 K) (.int .i64 I) (.int .i64 T) (.string (b.extract 16 (16 + N)))
  exact bodyPost_ret (page_result rfl _ _ w.heap.size _ rfl q1 rfl) rfl ⟨rfl, q2⟩

theorem read_any (w : World) (b : ByteArray) :
    Calls Tryz.prog 67 #[.string b] w fun r w' => r = .returned (.tuple #[(readP b).v, .int .i64 (readE b)]) ∧ Below w.heap.size w w' := by
  by_cases h : b.size = 256
  · by_cases hn : nOf b.data.toList ≤ 232
    · by_cases ho : (Pg.of b).ok
      · by_cases hx : b.extract 0 248 = (Pg.of b).sector.extract 0 248
        · by_cases hy : b.extract 252 b.size = (Pg.of b).sector.extract 252 (Pg.of b).sector.size
          · by_cases hz : b = (Pg.of b).sector
            · have e1 : readP b = Pg.of b := if_pos ⟨h, ho, hz⟩
              have e2 : readE b = 0 := (if_pos h).trans ((if_pos ⟨hn, ho, hx, hy⟩).trans (if_pos hz))
              rw [e1, e2]
              exact read_ok_any w b h hn ho hx hy hz
            · have e1 : readP b = Pg.zero := if_neg (fun k => hz k.2.2)
              have e2 : readE b = 7 := (if_pos h).trans ((if_pos ⟨hn, ho, hx, hy⟩).trans (if_neg hz))
              rw [e1, e2]
              exact read_sum_any w b h hn ho hx hy hz
          · have e1 : readP b = Pg.zero := if_neg (fun k => hy (by rw [← k.2.2]))
            have e2 : readE b = 6 := (if_pos h).trans (if_neg (fun k => hy k.2.2.2))
            rw [e1, e2]
            exact read_end_any w b h hn ho hx hy
        · have e1 : readP b = Pg.zero := if_neg (fun k => hx (by rw [← k.2.2]))
          have e2 : readE b = 6 := (if_pos h).trans (if_neg (fun k => hx k.2.2.1))
          rw [e1, e2]
          exact read_fore_any w b h hn ho hx
      · have e1 : readP b = Pg.zero := if_neg (fun k => ho k.2.1)
        have e2 : readE b = 6 := (if_pos h).trans (if_neg (fun k => ho k.2.1))
        rw [e1, e2]
        exact read_bad_any w b h hn ho
    · have e1 : readP b = Pg.zero := if_neg (fun k => hn (by
        have hk := k.2.1.2.2.2.2.2.2
        unfold Pg.of at hk
        rw [ByteArray.size_extract] at hk
        omega))
      have e2 : readE b = 6 := (if_pos h).trans (if_neg (fun k => hn k.1))
      rw [e1, e2]
      exact read_long_any w b h hn
  · have e1 : readP b = Pg.zero := if_neg (fun k => h k.1)
    have e2 : readE b = 5 := if_neg h
    rw [e1, e2]
    exact read_len_any w b h

end Go.Proofs.YtbkngnjkaledlaaGreat.P5
