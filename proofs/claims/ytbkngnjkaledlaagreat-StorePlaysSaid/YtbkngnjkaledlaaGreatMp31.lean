/-
  Texts of the proof of SaidPlay8b.
-/
import Derived.Test.YtbkngnjkaledlaaGreatMp30
set_option maxHeartbeats 8000000
set_option maxRecDepth 100000
namespace Go.Proofs.YtbkngnjkaledlaaGreat.P5
open Go Go.RowKit Go.Lib P0 P2
theorem rread_len_any (w : World) (b : ByteArray) (h : b.size ≠ 256) :
  Calls Tryz.prog 69 #[.string b] w fun r w' => r = .returned (.tuple #[Pg.zero.v, .int .i64 5]) ∧ Below w.heap.size w w' := by
 have k1 : ((b.size : Int) != 256) = true := by simp; omega
 clear h
 go_enter Tryz.func69, Tryz.ntmps69
 go_wp2
 exact bodyPost_ret (page_result rfl _ _ w.heap.size _ rfl (new_at w _ _) rfl) rfl ⟨rfl, below_new _ _⟩
theorem rread_long_any (w : World) (b : ByteArray) (h : b.size = 256) (hn : ¬ nOf b.data.toList ≤ 232) :
  Calls Tryz.prog 69 #[.string b] w fun r w' => r = .returned (.tuple #[Pg.zero.v, .int .i64 6]) ∧ Below w.heap.size w w' := by
 have k1 : ((b.size : Int) != 256) = false := by simp; omega
 have i1 : 1 < b.size := by omega
 have e1 := size_at b i1
 have k2 : decide ((232 : Int) < (nOf b.data.toList : Int)) = true := decide_eq_true (by omega)
 have k3 : decide (232 < nOf b.data.toList) = true := decide_eq_true (by omega)
 clear h hn
 go_enter Tryz.func69, Tryz.ntmps69
 go_wp2
 exact bodyPost_ret (page_result rfl _ _ w.heap.size _ rfl (new_at w _ _) rfl) rfl ⟨rfl, below_new _ _⟩
theorem cut_list (b : ByteArray) (i j : Nat) : (b.extract i j).data.toList = (b.data.toList.drop i).take (j - i) := Lib.extract_data ..
theorem wrap_is (x : Nat) : IntKind.i64.wrap (x : Int) = wrap64 (x : Int) := by
 rw [IntKind.wrap_i64]
 unfold wrap64
 rfl
theorem RdSt.made (w : World) (cp : Array Value) : RdSt w w.heap.size (w.heap.size + 1) Pg.zero.cells cp ((w.alloc (.cells Pg.zero.cells 47)).alloc (.cells cp 47)).drew := by
 have hB := (((Below.refl w.heap.size w).alloc (Nat.le_refl _) (.cells Pg.zero.cells 47)).alloc (by simp) (.cells cp 47)).drew
 refine ⟨?_, ?_, by omega, hB, by omega, by omega⟩
 ·show ((w.alloc (.cells Pg.zero.cells 47)).alloc (.cells cp 47)).heap[w.heap.size]? = _
  rw [Below.heap_alloc _ _ _ (by simp)]; exact new_at w _ _
 ·have := new_at (w.alloc (.cells Pg.zero.cells 47)) cp 47
  show ((w.alloc (.cells Pg.zero.cells 47)).alloc (.cells cp 47)).heap[w.heap.size + 1]? = _
  simpa using this
theorem RdSt.fin0 {w0 : World} {r p : Nat} {cp : Array Value} {w : World} (h : RdSt w0 r p Pg.zero.cells cp w) (a b c d : Value) :
  (((((w.setCell ⟨r, 0, none⟩ a).setCell ⟨r, 1, none⟩ b).setCell ⟨r, 2, none⟩ c).setCell ⟨r, 3, none⟩ d).heap[r]? = some (.cells #[a, b, c, d] 47 (0, 0))) ∧ Below w0.heap.size w0 ((((w.setCell ⟨r, 0, none⟩ a).setCell ⟨r, 1, none⟩ b).setCell ⟨r, 2, none⟩ c).setCell ⟨r, 3, none⟩ d) :=
 ⟨set_at (set_at (set_at (set_at h.res 0 a) 1 b) 2 c) 3 d, (((h.below.setCell h.rlo a).setCell h.rlo b).setCell h.rlo c).setCell h.rlo d⟩
theorem rread_in_any (w : World) (b : ByteArray) (h : b.size = 256) (hn : nOf b.data.toList ≤ 232) :
  Calls Tryz.prog 69 #[.string b] w fun r w' => r = .returned (.tuple #[(readP b).v, .int .i64 (readE b)]) ∧ Below w.heap.size w w' := by
 have k1 : ((b.size : Int) != 256) = false := by simp; omega
 have i1 : 1 < b.size := by omega
 have i0 : 0 < b.size := by omega
 have e1 := size_at b i1
 have e0 : IntKind.i64.wrap (((b[0]'i0).toNat : Nat) : Int) = (kOf b.data.toList : Int) := by
  have hk : (b[0]'i0).toNat = kOf b.data.toList := by
   unfold kOf
   rw [List.getD_eq_getElem?_getD, List.getElem?_eq_getElem (by rw [text_len]; omega)]
   rfl
  have := (b[0]'i0).toNat_lt
  rw [hk] at this
  rw [hk, IntKind.wrap_i64]
  omega
 have k2 : decide ((232 : Int) < (nOf b.data.toList : Int)) = false := decide_eq_false (by omega)
 have k3 : decide (232 < nOf b.data.toList) = false := decide_eq_false (by omega)
 have N1 := fun W => Lib.hid (rNum_any W (b.extract 2 4) (by rw [ByteArray.size_extract]; omega))
 have N2 := fun W => Lib.hid (rNum_any W (b.extract 8 16) (by rw [ByteArray.size_extract]; omega))
 rw [cut_list] at N1 N2
 have t1 : IntKind.i64.wrap ((num ((b.data.toList.drop 2).take (4 - 2)) : Nat) : Int) = idOf b.data.toList := wrap_is _
 have t2 : IntKind.i64.wrap ((num ((b.data.toList.drop 8).take (16 - 8)) : Nat) : Int) = txOf b.data.toList := wrap_is _
 have HL := fun W => Lib.hid (rValid_any W (Pg.of b))
 have n1 : (16 : Int) ≤ 16 + (nOf b.data.toList : Int) := by omega
 have n2 : 16 + (nOf b.data.toList : Int) ≤ (b.size : Int) := by omega
 have n3 : IntKind.i64.wrap (16 + (nOf b.data.toList : Int)) = 16 + (nOf b.data.toList : Int) := by rw [IntKind.wrap_i64]; omega
 have n4 : (4 : Int) ≤ (b.size : Int) := by omega
 have n5 : (16 : Int) ≤ (b.size : Int) := by omega
 have n6 : (248 : Int) ≤ (b.size : Int) := by omega
 have n7 : (252 : Int) ≤ (b.size : Int) := by omega
 have n8 : (16 + (nOf b.data.toList : Int)).toNat = 16 + nOf b.data.toList := by omega
 have HM := Lib.hid (RdSt.made w (Pg.of b).cells)
 have HP : Hid ((Pg.of b).ok → (Pg.of b).sector.size = 256 ∧ ∀ W, Calls Tryz.prog 38 #[(Pg.of b).v] W fun r w' => r = .returned (.string (Pg.of b).sector) ∧ Below W.heap.size W w') := fun ho => ⟨Pg.sector_size ho, fun W => rLay_ok W _ ho⟩
 have R1 : Hid (¬ (Pg.of b).ok → readP b = Pg.zero ∧ readE b = 6) := fun ho => ⟨if_neg (fun k => ho k.2.1), (if_pos h).trans (if_neg (fun k => ho k.2.1))⟩
 have R2 : Hid (¬ b.extract 0 248 = (Pg.of b).sector.extract 0 248 → readP b = Pg.zero ∧ readE b = 6) := fun hx => ⟨if_neg (fun k => hx (by rw [← k.2.2])), (if_pos h).trans (if_neg (fun k => hx k.2.2.1))⟩
 have R3 : Hid (¬ b.extract 252 b.size = (Pg.of b).sector.extract 252 (Pg.of b).sector.size → readP b = Pg.zero ∧ readE b = 6) := fun hy => ⟨if_neg (fun k => hy (by rw [← k.2.2])), (if_pos h).trans (if_neg (fun k => hy k.2.2.2))⟩
 have R4 : Hid ((Pg.of b).ok → b.extract 0 248 = (Pg.of b).sector.extract 0 248 → b.extract 252 b.size = (Pg.of b).sector.extract 252 (Pg.of b).sector.size → ¬ b = (Pg.of b).sector → readP b = Pg.zero ∧ readE b = 7) := fun ho hx hy hz => ⟨if_neg (fun k => hz k.2.2), (if_pos h).trans ((if_pos ⟨hn, ho, hx, hy⟩).trans (if_neg hz))⟩
 have R5 : Hid ((Pg.of b).ok → b.extract 0 248 = (Pg.of b).sector.extract 0 248 → b.extract 252 b.size = (Pg.of b).sector.extract 252 (Pg.of b).sector.size → b = (Pg.of b).sector → readP b = Pg.of b ∧ readE b = 0) := fun ho hx hy hz => ⟨if_pos ⟨h, ho, hz⟩, (if_pos h).trans ((if_pos ⟨hn, ho, hx, hy⟩).trans (if_pos hz))⟩
 have HV : Hid ((Pg.of b).v = .agg #[.int .i64 (kOf b.data.toList), .int .i64 (idOf b.data.toList), .int .i64 (txOf b.data.toList), .string (b.extract 16 (16 + nOf b.data.toList))]) := rfl
 have HCs : Hid ((Pg.of b).cells = #[.int .i64 (kOf b.data.toList), .int .i64 (idOf b.data.toList), .int .i64 (txOf b.data.toList), .string (b.extract 16 (16 + nOf b.data.toList))]) := rfl
 generalize Pg.of b = P at *
 generalize readP b = RP at *
 generalize readE b = RE at *
 generalize P.sector = S at *
 rw [HV.out] at HL
 have HP2 := HP.out
 rw [HV.out] at HP2
 have HM2 := HM.out
 rw [HCs.out, Pg.zero_cells] at HM2
 have HP := Lib.hid HP2
 have HM := Lib.hid HM2
 clear h hn HP2 HM2 HCs
 generalize kOf b.data.toList = K at *
 generalize idOf b.data.toList = I at *
 generalize txOf b.data.toList = T at *
 generalize nOf b.data.toList = N at *
 go_enter Tryz.func69, Tryz.ntmps69
 go_upto_region 6 with fail
 go_cut [5] from 18 to 33 (fun v wx => v = .pointer (some ⟨w.heap.size + 1, 0, none⟩) ∧ RdSt w w.heap.size (w.heap.size + 1) #[.int .i64 0, .int .i64 0, .int .i64 0, .string ⟨#[]⟩] #[.int .i64 K, .int .i64 I, .int .i64 T, .string (b.extract 16 (16 + N))] wx)
 case first =>
  go_region_held3 (fun _ => True) (trivial)
   ((first
    | (go_at_call 107; (with_reducible refine (N1 _).out.mono ?_); rintro e w2 ⟨rfl, rfl⟩)
    | (go_at_call 107; (with_reducible refine (N2 _).out.mono ?_); rintro e w2 ⟨rfl, rfl⟩)))
  all_goals
   go_wp2_with fail
   go_meet
   exact ⟨rfl, HM.out⟩
 case rest =>
  obtain ⟨rfl, st⟩ := hcut
  have l0 := (st.cell 0).trans (show _ = some (Value.int .i64 K) from rfl)
  have l1 := (st.cell 1).trans (show _ = some (Value.int .i64 I) from rfl)
  have l2 := (st.cell 2).trans (show _ = some (Value.int .i64 T) from rfl)
  have l3 := (st.cell 3).trans (show _ = some (Value.string (b.extract 16 (16 + N))) from rfl)
  by_cases ho : P.ok
  ·by_cases hx : b.extract 0 248 = S.extract 0 248
   ·by_cases hy : b.extract 252 b.size = S.extract 252 S.size
    ·by_cases hz : b = S
     ·obtain ⟨hS, HP3⟩ := HP.out ho
      have HP4 := fun W => Lib.hid (HP3 W)
      clear HP3
      have m4 : (248 : Int) ≤ (S.size : Int) := by omega
      have m5 : (252 : Int) ≤ (S.size : Int) := by omega
      clear hS
      rw [decide_eq_true ho] at HL
      obtain ⟨ra, rb⟩ := R5.out ho hx hy hz
      have x1 := same_true hx.symm
      have x2 := same_true hy.symm
      have x3 := same_true hz.symm
      clear hx hy hz
      subst ra rb
      clear ho R1 R2 R3 R4 R5 HP
      go_wp2_with (first
       | (go_at_call 28; (with_reducible refine (HL _).out.mono ?_); rintro e w3 ⟨rfl, hb3⟩; have s6 := st.over hb3; have r0 := (s6.rcell 0).trans (show _ = some (Value.int .i64 0) from rfl); have r1 := (s6.rcell 1).trans (show _ = some (Value.int .i64 0) from rfl); have r2 := (s6.rcell 2).trans (show _ = some (Value.int .i64 0) from rfl); have r3 := (s6.rcell 3).trans (show _ = some (Value.string ⟨#[]⟩) from rfl); have g0 := s6.rfree 0; have g1 := s6.rfree 1; have g2 := s6.rfree 2; have g3 := s6.rfree 3; have m0 := (s6.cell 0).trans (show _ = some (Value.int .i64 K) from rfl); have m1 := (s6.cell 1).trans (show _ = some (Value.int .i64 I) from rfl); have m2 := (s6.cell 2).trans (show _ = some (Value.int .i64 T) from rfl); have m3 := (s6.cell 3).trans (show _ = some (Value.string (b.extract 16 (16 + N))) from rfl))
       | (go_at_call 38; (with_reducible refine (HP4 _).out.mono ?_); rintro e w4 ⟨rfl, hb4⟩; have s7 := s6.over hb4; have r0 := (s7.rcell 0).trans (show _ = some (Value.int .i64 0) from rfl); have r1 := (s7.rcell 1).trans (show _ = some (Value.int .i64 0) from rfl); have r2 := (s7.rcell 2).trans (show _ = some (Value.int .i64 0) from rfl); have r3 := (s7.rcell 3).trans (show _ = some (Value.string ⟨#[]⟩) from rfl); have g0   := s7.rfree 0; have g1   := s7.rfree 1; have g2   := s7.rfree 2; have g3   := s7.rfree 3; have m0 := (s7.cell 0).trans (show _ = some (Value.int .i64 K) from rfl); have m1 := (s7.cell 1).trans (show _ = some (Value.int .i64 I) from rfl); have m2 := (s7.cell 2).trans (show _ = some (Value.int .i64 T) from rfl); have m3 := (s7.cell 3).trans (show _ = some (Value.string (b.extract 16 (16 + N))) from rfl)))
      go_quiet (fail)
      go_wp2
      obtain ⟨q1, q2⟩ := (show RdSt w w.heap.size (w.heap.size + 1) Pg.zero.cells _ _ from s7).fin nq (.int .i64 K) (.int .i64 I) (.int .i64 T) (.string (b.extract 16 (16 + N)))
      exact bodyPost_ret (page_result rfl _ _ w.heap.size _ rfl q1 rfl) rfl ⟨by first | rfl | (rw [HV.out]; rfl), q2⟩
     ·obtain ⟨hS, HP3⟩ := HP.out ho
      have HP4 := fun W => Lib.hid (HP3 W)
      clear HP3
      have m4 : (248 : Int) ≤ (S.size : Int) := by omega
      have m5 : (252 : Int) ≤ (S.size : Int) := by omega
      clear hS
      rw [decide_eq_true ho] at HL
      obtain ⟨ra, rb⟩ := R4.out ho hx hy hz
      have x1 := same_true hx.symm
      have x2 := same_true hy.symm
      have x3 := same_false (fun e => hz e.symm)
      clear hx hy hz
      subst ra rb
      clear ho R1 R2 R3 R4 R5 HP
      go_wp2_with (first
       | (go_at_call 28; (with_reducible refine (HL _).out.mono ?_); rintro e w3 ⟨rfl, hb3⟩; have s6 := st.over hb3; have r0 := (s6.rcell 0).trans (show _ = some (Value.int .i64 0) from rfl); have r1 := (s6.rcell 1).trans (show _ = some (Value.int .i64 0) from rfl); have r2 := (s6.rcell 2).trans (show _ = some (Value.int .i64 0) from rfl); have r3 := (s6.rcell 3).trans (show _ = some (Value.string ⟨#[]⟩) from rfl); have g0 := s6.rfree 0; have g1 := s6.rfree 1; have g2 := s6.rfree 2; have g3 := s6.rfree 3; have m0 := (s6.cell 0).trans (show _ = some (Value.int .i64 K) from rfl); have m1 := (s6.cell 1).trans (show _ = some (Value.int .i64 I) from rfl); have m2 := (s6.cell 2).trans (show _ = some (Value.int .i64 T) from rfl); have m3 := (s6.cell 3).trans (show _ = some (Value.string (b.extract 16 (16 + N))) from rfl))
       | (go_at_call 38; (with_reducible refine (HP4 _).out.mono ?_); rintro e w4 ⟨rfl, hb4⟩; have s7 := s6.over hb4; have r0 := (s7.rcell 0).trans (show _ = some (Value.int .i64 0) from rfl); have r1 := (s7.rcell 1).trans (show _ = some (Value.int .i64 0) from rfl); have r2 := (s7.rcell 2).trans (show _ = some (Value.int .i64 0) from rfl); have r3 := (s7.rcell 3).trans (show _ = some (Value.string ⟨#[]⟩) from rfl); have g0   := s7.rfree 0; have g1   := s7.rfree 1; have g2   := s7.rfree 2; have g3   := s7.rfree 3; have m0 := (s7.cell 0).trans (show _ = some (Value.int .i64 K) from rfl); have m1 := (s7.cell 1).trans (show _ = some (Value.int .i64 I) from rfl); have m2 := (s7.cell 2).trans (show _ = some (Value.int .i64 T) from rfl); have m3 := (s7.cell 3).trans (show _ = some (Value.string (b.extract 16 (16 + N))) from rfl)))
      go_quiet (fail)
      go_wp2
      obtain ⟨q1, q2⟩ := (show RdSt w w.heap.size (w.heap.size + 1) Pg.zero.cells _ _ from s7).fin nq (.int .i64 0) (.int .i64 0) (.int .i64 0) (.string ⟨#[]⟩)
      exact bodyPost_ret (page_result rfl _ _ w.heap.size _ rfl q1 rfl) rfl ⟨by first | rfl | (rw [HV.out]; rfl), q2⟩
    ·obtain ⟨hS, HP3⟩ := HP.out ho
     have HP4 := fun W => Lib.hid (HP3 W)
     clear HP3
     have m4 : (248 : Int) ≤ (S.size : Int) := by omega
     have m5 : (252 : Int) ≤ (S.size : Int) := by omega
     clear hS
     rw [decide_eq_true ho] at HL
     obtain ⟨ra, rb⟩ := R3.out hy
     have x1 := same_true hx.symm
     have x2 := same_false (fun e => hy e.symm)
     clear hx hy
     subst ra rb
     clear ho R1 R2 R3 R4 R5 HP
     go_wp2_with (first
      | (go_at_call 28; (with_reducible refine (HL _).out.mono ?_); rintro e w3 ⟨rfl, hb3⟩; have s6 := st.over hb3; have r0 := (s6.rcell 0).trans (show _ = some (Value.int .i64 0) from rfl); have r1 := (s6.rcell 1).trans (show _ = some (Value.int .i64 0) from rfl); have r2 := (s6.rcell 2).trans (show _ = some (Value.int .i64 0) from rfl); have r3 := (s6.rcell 3).trans (show _ = some (Value.string ⟨#[]⟩) from rfl); have g0 := s6.rfree 0; have g1 := s6.rfree 1; have g2 := s6.rfree 2; have g3 := s6.rfree 3; have m0 := (s6.cell 0).trans (show _ = some (Value.int .i64 K) from rfl); have m1 := (s6.cell 1).trans (show _ = some (Value.int .i64 I) from rfl); have m2 := (s6.cell 2).trans (show _ = some (Value.int .i64 T) from rfl); have m3 := (s6.cell 3).trans (show _ = some (Value.string (b.extract 16 (16 + N))) from rfl))
      | (go_at_call 38; (with_reducible refine (HP4 _).out.mono ?_); rintro e w4 ⟨rfl, hb4⟩; have s7 := s6.over hb4; have r0 := (s7.rcell 0).trans (show _ = some (Value.int .i64 0) from rfl); have r1 := (s7.rcell 1).trans (show _ = some (Value.int .i64 0) from rfl); have r2 := (s7.rcell 2).trans (show _ = some (Value.int .i64 0) from rfl); have r3 := (s7.rcell 3).trans (show _ = some (Value.string ⟨#[]⟩) from rfl); have g0   := s7.rfree 0; have g1   := s7.rfree 1; have g2   := s7.rfree 2; have g3   := s7.rfree 3; have m0 := (s7.cell 0).trans (show _ = some (Value.int .i64 K) from rfl); have m1 := (s7.cell 1).trans (show _ = some (Value.int .i64 I) from rfl); have m2 := (s7.cell 2).trans (show _ = some (Value.int .i64 T) from rfl); have m3 := (s7.cell 3).trans (show _ = some (Value.string (b.extract 16 (16 + N))) from rfl)))
     go_quiet (fail)
     go_wp2
     obtain ⟨q1, q2⟩ := (show RdSt w w.heap.size (w.heap.size + 1) Pg.zero.cells _ _ from s7).fin nq (.int .i64 0) (.int .i64 0) (.int .i64 0) (.string ⟨#[]⟩)
     exact bodyPost_ret (page_result rfl _ _ w.heap.size _ rfl q1 rfl) rfl ⟨by first | rfl | (rw [HV.out]; rfl), q2⟩
   ·obtain ⟨hS, HP3⟩ := HP.out ho
    have HP4 := fun W => Lib.hid (HP3 W)
    clear HP3
    have m4 : (248 : Int) ≤ (S.size : Int) := by omega
    have m5 : (252 : Int) ≤ (S.size : Int) := by omega
    clear hS
    rw [decide_eq_true ho] at HL
    obtain ⟨ra, rb⟩ := R2.out hx
    have x1 := same_false (fun e => hx e.symm)
    clear hx
    subst ra rb
    clear ho R1 R2 R3 R4 R5 HP
    go_wp2_with (first
     | (go_at_call 28; (with_reducible refine (HL _).out.mono ?_); rintro e w3 ⟨rfl, hb3⟩; have s6 := st.over hb3; have r0 := (s6.rcell 0).trans (show _ = some (Value.int .i64 0) from rfl); have r1 := (s6.rcell 1).trans (show _ = some (Value.int .i64 0) from rfl); have r2 := (s6.rcell 2).trans (show _ = some (Value.int .i64 0) from rfl); have r3 := (s6.rcell 3).trans (show _ = some (Value.string ⟨#[]⟩) from rfl); have g0 := s6.rfree 0; have g1 := s6.rfree 1; have g2 := s6.rfree 2; have g3 := s6.rfree 3; have m0 := (s6.cell 0).trans (show _ = some (Value.int .i64 K) from rfl); have m1 := (s6.cell 1).trans (show _ = some (Value.int .i64 I) from rfl); have m2 := (s6.cell 2).trans (show _ = some (Value.int .i64 T) from rfl); have m3 := (s6.cell 3).trans (show _ = some (Value.string (b.extract 16 (16 + N))) from rfl))
     | (go_at_call 38; (with_reducible refine (HP4 _).out.mono ?_); rintro e w4 ⟨rfl, hb4⟩; have s7 := s6.over hb4; have r0 := (s7.rcell 0).trans (show _ = some (Value.int .i64 0) from rfl); have r1 := (s7.rcell 1).trans (show _ = some (Value.int .i64 0) from rfl); have r2 := (s7.rcell 2).trans (show _ = some (Value.int .i64 0) from rfl); have r3 := (s7.rcell 3).trans (show _ = some (Value.string ⟨#[]⟩) from rfl); have g0   := s7.rfree 0; have g1   := s7.rfree 1; have g2   := s7.rfree 2; have g3   := s7.rfree 3; have m0 := (s7.cell 0).trans (show _ = some (Value.int .i64 K) from rfl); have m1 := (s7.cell 1).trans (show _ = some (Value.int .i64 I) from rfl); have m2 := (s7.cell 2).trans (show _ = some (Value.int .i64 T) from rfl); have m3 := (s7.cell 3).trans (show _ = some (Value.string (b.extract 16 (16 + N))) from rfl)))
    go_quiet (fail)
    go_wp2
    obtain ⟨q1, q2⟩ := (show RdSt w w.heap.size (w.heap.size + 1) Pg.zero.cells _ _ from s7).fin nq (.int .i64 0) (.int .i64 0) (.int .i64 0) (.string ⟨#[]⟩)
    exact bodyPost_ret (page_result rfl _ _ w.heap.size _ rfl q1 rfl) rfl ⟨by first | rfl | (rw [HV.out]; rfl), q2⟩
  ·rw [decide_eq_false ho] at HL
   obtain ⟨ra, rb⟩ := R1.out ho
   subst ra rb
   clear ho R1 R2 R3 R4 R5 HP
   go_wp2_with (first
    | (go_at_call 28; (with_reducible refine (HL _).out.mono ?_); rintro e w3 ⟨rfl, hb3⟩; have s6 := st.over hb3; have r0 := (s6.rcell 0).trans (show _ = some (Value.int .i64 0) from rfl); have r1 := (s6.rcell 1).trans (show _ = some (Value.int .i64 0) from rfl); have r2 := (s6.rcell 2).trans (show _ = some (Value.int .i64 0) from rfl); have r3 := (s6.rcell 3).trans (show _ = some (Value.string ⟨#[]⟩) from rfl); have g0 := s6.rfree 0; have g1 := s6.rfree 1; have g2 := s6.rfree 2; have g3 := s6.rfree 3; have m0 := (s6.cell 0).trans (show _ = some (Value.int .i64 K) from rfl); have m1 := (s6.cell 1).trans (show _ = some (Value.int .i64 I) from rfl); have m2 := (s6.cell 2).trans (show _ = some (Value.int .i64 T) from rfl); have m3 := (s6.cell 3).trans (show _ = some (Value.string (b.extract 16 (16 + N))) from rfl)))
   obtain ⟨q1, q2⟩ := (show RdSt w w.heap.size (w.heap.size + 1) Pg.zero.cells _ _ from s6).fin0 (.int .i64 0) (.int .i64 0) (.int .i64 0) (.string ⟨#[]⟩)
   exact bodyPost_ret (page_result rfl _ _ w.heap.size _ rfl q1 rfl) rfl ⟨rfl, q2⟩
theorem rread_any (w : World) (b : ByteArray) :
  Calls Tryz.prog 69 #[.string b] w fun r w' => r = .returned (.tuple #[(readP b).v, .int .i64 (readE b)]) ∧ Below w.heap.size w w' := by
 by_cases h : b.size = 256
 ·by_cases hn : nOf b.data.toList ≤ 232
  ·exact rread_in_any w b h hn
  ·have e1 : readP b = Pg.zero := if_neg (fun k => hn (by
    have hk := k.2.1.2.2.2.2.2.2
    unfold Pg.of at hk
    rw [ByteArray.size_extract] at hk
    omega))
   have e2 : readE b = 6 := (if_pos h).trans (if_neg (fun k => hn k.1))
   rw [e1, e2]
   exact rread_long_any w b h hn
 ·have e1 : readP b = Pg.zero := if_neg (fun k => h k.1)
  have e2 : readE b = 5 := if_neg h
  rw [e1, e2]
  exact rread_len_any w b h
end Go.Proofs.YtbkngnjkaledlaaGreat.P5
namespace Go.Proofs.YtbkngnjkaledlaaGreat.P8
open Go Go.RowKit Go.Lib Go.Maps Go.ChangeMaps Go.MapKept P3 P4
open P5 (Pg readP read_any RdSt page_result)
def getOf (bb : ByteArray) (e : Int) (id : Int) : Pg × Int :=
 if e ≠ 0 then (Pg.zero, e)
 else if P5.readE bb ≠ 0 then (Pg.zero, P5.readE bb)
 else if (readP bb).id ≠ id ∨ (readP bb).k = 1 then (Pg.zero, 25)
 else (readP bb, 0)
def getK (K : Dk) (s : ByteArray) (id : Int) : Pg × Int := getOf (readT K s id) (P4.readE K s id) id
structure GS (W w : World) : Prop where
 res : w.heap[W.heap.size]? = some (.cells Pg.zero.cells 47 (0, 0))
 below : Below W.heap.size W w
theorem GS.made (W : World) : GS W (W.alloc (.cells #[.int .i64 0, .int .i64 0, .int .i64 0, .string ⟨#[]⟩] 47)) := ⟨new_at W _ _, below_new W _⟩
theorem GS.over {W w w' : World} (h : GS W w) (hb : Below w.heap.size w w') : GS W w' := ⟨(hb.block _ (P3.lt_of_block h.res)).trans h.res, thenBelow h.below hb⟩
theorem GS.page {W w : World} (h : GS W w) (c : Array Value) : RdSt W W.heap.size w.heap.size Pg.zero.cells c (w.alloc (.cells c 47)) :=
 ⟨by rw [Below.heap_alloc _ _ _ (P3.lt_of_block h.res)]; exact h.res, new_at w _ _, Nat.ne_of_lt (P3.lt_of_block h.res), thenBelow h.below (below_new w _), Nat.le_refl _, h.below.size⟩
theorem GS.fin0 {W w : World} (h : GS W w) (a b c d : Value) :
  (((((w.setCell ⟨W.heap.size, 0, none⟩ a).setCell ⟨W.heap.size, 1, none⟩ b).setCell ⟨W.heap.size, 2, none⟩ c).setCell ⟨W.heap.size, 3, none⟩ d).heap[W.heap.size]? = some (.cells #[a, b, c, d] 47 (0, 0))) ∧ Below W.heap.size W ((((w.setCell ⟨W.heap.size, 0, none⟩ a).setCell ⟨W.heap.size, 1, none⟩ b).setCell ⟨W.heap.size, 2, none⟩ c).setCell ⟨W.heap.size, 3, none⟩ d) :=
 ⟨set_at (set_at (set_at (set_at h.res 0 a) 1 b) 2 c) 3 d, (((h.below.setCell (Nat.le_refl _) a).setCell (Nat.le_refl _) b).setCell (Nat.le_refl _) c).setCell (Nat.le_refl _) d⟩
structure GE (w : World) (P b d : Nat) (s : ByteArray) (n : Int) (K : Dk) (c : Array Value) (W : World) : Prop where
 res : W.heap[w.heap.size]? = some (.cells Pg.zero.cells 47 (0, 0))
 page : W.heap[P]? = some (.cells c 47 (0, 0))
 sd : SD W b d s n K
 only : Only b w W
 ne : w.heap.size ≠ P
 lt : b < w.heap.size
 foot : ∀ k, K.foot d k → k < w.heap.size
section
variable {w W W' : World} {b d P : Nat} {s : ByteArray} {n : Int} {K : Dk} {c : Array Value}
theorem SD.set (h : SD w b d s n K) (m : Int) : SD (w.setCell ⟨b, 2, none⟩ (.int .i64 m)) b d s m K :=
 ⟨h.1.set m, h.2.1.fr (S := (· = b)) (Fr.only ((Only.refl b w).setCell 2 (.int .i64 m)) rfl) (fun k hk q => h.2.2 (q ▸ hk)), h.2.2⟩
theorem GE.made (st : RdSt w w.heap.size P Pg.zero.cells c W) (h : SD w b d s n K) (m : Int) : GE w P b d s m K c (W.setCell ⟨b, 2, none⟩ (.int .i64 m)) := by
 have hlt := h.1.lt
 have hp := st.plo
 refine ⟨P3.old_set st.res _ (by show w.heap.size ≠ b; omega) _, P3.old_set st.page _ (by show P ≠ b; omega) _, (h.below st.below).set m, (Only.of st.below).setCell 2 _, st.ne, hlt, h.2.1.foot_lt⟩
theorem GE.cell (h : GE w P b d s n K c W) (j : Nat) : W.cell? ⟨P, j, none⟩ = c[j]? := P3.cell_at h.page j
theorem GE.rcell (h : GE w P b d s n K c W) (j : Nat) : W.cell? ⟨w.heap.size, j, none⟩ = Pg.zero.cells[j]? := P3.cell_at h.res j
theorem GE.rfree (h : GE w P b d s n K c W) (j : Nat) : W.frozen? ⟨w.heap.size, j, none⟩ = false := P3.free_at h.res j
theorem only_new {R : Nat} (h : Only b w W) (hR : w.heap.size ≤ R) (j : Nat) (u : Value) : Only b w (W.setCell ⟨R, j, none⟩ u) :=
 ⟨h.os, h.tape, h.output, by simpa [World.setCell] using h.size, fun k hk hkb => (Below.heap_setCell _ _ _ _ (by show k ≠ R; omega)).trans (h.block k hk hkb)⟩
theorem GE.fin (h : GE w P b d s n K c W) (x y z t : Value) :
  (((((W.setCell ⟨w.heap.size, 0, none⟩ x).setCell ⟨w.heap.size, 1, none⟩ y).setCell ⟨w.heap.size, 2, none⟩ z).setCell ⟨w.heap.size, 3, none⟩ t).heap[w.heap.size]? = some (.cells #[x, y, z, t] 47 (0, 0))) ∧ SD ((((W.setCell ⟨w.heap.size, 0, none⟩ x).setCell ⟨w.heap.size, 1, none⟩ y).setCell ⟨w.heap.size, 2, none⟩ z).setCell ⟨w.heap.size, 3, none⟩ t) b d s n K ∧ Only b w ((((W.setCell ⟨w.heap.size, 0, none⟩ x).setCell ⟨w.heap.size, 1, none⟩ y).setCell ⟨w.heap.size, 2, none⟩ z).setCell ⟨w.heap.size, 3, none⟩ t) := by
 refine ⟨P3.set_at (P3.set_at (P3.set_at (P3.set_at h.res 0 x) 1 y) 2 z) 3 t, ?_, only_new (only_new (only_new (only_new h.only (Nat.le_refl _) 0 x) (Nat.le_refl _) 1 y) (Nat.le_refl _) 2 z) (Nat.le_refl _) 3 t⟩
 have hf : Fr (· = w.heap.size) W ((((W.setCell ⟨w.heap.size, 0, none⟩ x).setCell ⟨w.heap.size, 1, none⟩ y).setCell ⟨w.heap.size, 2, none⟩ z).setCell ⟨w.heap.size, 3, none⟩ t) := Fr.only (((((Only.refl w.heap.size W).setCell 0 x).setCell 1 y).setCell 2 z).setCell 3 t) rfl
 exact h.sd.fr hf (fun q => by have := h.lt; omega) (fun k hk q => by have := h.foot k hk; omega)
theorem SD.get (h : SD w b d s n K) (hs : s.size ≤ maxLen) (id : Int) :
  Calls Tryz.prog 17 #[.pointer (some ⟨b, 0, none⟩), .int .i64 id] w fun e w2 => e = .returned (.tuple #[(getK K s id).1.v, .int .i64 (getK K s id).2]) ∧ SD w2 b d s (if (getK K s id).2 = 0 then wrap64 (n + 1) else n) K ∧ Only b w w2 := by
 obtain ⟨G, hG⟩ : ∃ G, G = getK K s id := ⟨_, rfl⟩
 obtain ⟨bb, hbb⟩ : ∃ x, x = readT K s id := ⟨_, rfl⟩
 obtain ⟨e0, he0⟩ : ∃ x, x = P4.readE K s id := ⟨_, rfl⟩
 have HRd : Hid (∀ W, SD W b d s n K → Calls Tryz.prog 65 #[.pointer (some ⟨d, 0, none⟩), .string s, .int .i64 id] W fun e w' => e = .returned (.tuple #[.string bb, .int .i64 e0]) ∧ Below W.heap.size W w') := fun W k => by rw [hbb, he0]; exact k.2.1.read s id hs
 rw [← hG]
 unfold getK getOf at hG
 rw [← hbb, ← he0] at hG
 clear hbb he0
 obtain ⟨p, hp⟩ : ∃ p, p = readP bb := ⟨_, rfl⟩
 obtain ⟨e1, he1⟩ : ∃ e, e = P5.readE bb := ⟨_, rfl⟩
 have HP : Hid (∀ W, Calls Tryz.prog 67 #[.string bb] W fun e w' => e = .returned (.tuple #[.agg #[.int .i64 p.k, .int .i64 p.id, .int .i64 p.tx, .string p.body], .int .i64 e1]) ∧ Below W.heap.size W w') := fun W => by rw [hp, he1]; exact read_any W bb
 rw [← hp, ← he1] at hG
 clear hp he1
 have HG := Lib.hid hG
 clear hG
 have HW : Hid (∀ W, Below w.heap.size w W → SD W b d s n K ∧ Only b w W) := fun W hb => ⟨h.below hb, Only.of hb⟩
 have HM : Hid (∀ P c W, RdSt w w.heap.size P Pg.zero.cells c W → SD W b d s n K ∧ GE w P b d s (wrap64 (n + 1)) K c (W.setCell ⟨b, 2, none⟩ (.int .i64 (wrap64 (n + 1))))) := fun P c W st => ⟨h.below st.below, GE.made st h _⟩
 have HX : Hid (∀ W, SD W b d s n K → W.cell? ⟨b, 0, none⟩ = some (.pointer (some ⟨d, 0, none⟩)) ∧ W.cell? ⟨b, 1, none⟩ = some (.string s)) := fun _ k => k.cells
 have HGS := Lib.hid (GS.made w)
 have HA := Lib.hid (HW.out _ (GS.made w).below).1
 have HAd := Lib.hid (HA.out.below (Below.refl _ _).drew)
 have HGd := Lib.hid (HGS.out.over (Below.refl _ _).drew)
 clear h
 go_enter Tryz.func17, Tryz.ntmps17
 go_upto_region 3 with fail
 go_cut [6, 7] from 12 to 24 (fun v e W' => v = .string bb ∧ e = .int .i64 e0 ∧ GS w W')
 case first =>
  go_region_held3 (fun W' => W'.cell? ⟨b, 0, none⟩ = some (.pointer (some ⟨d, 0, none⟩)) ∧ W'.cell? ⟨b, 1, none⟩ = some (.string s)) (first | exact HX.out _ HA.out | exact HX.out _ HAd.out | exact HX.out _ H2.out)
   ((go_at_call 65; (with_reducible refine (HRd.out _ (by first | exact HAd.out | exact HA.out)).mono ?_); rintro e w2 ⟨rfl, hb⟩; have H2 := Lib.hid (show SD w2 b d s n K from (by first | exact HAd.out.below hb | exact HA.out.below hb)); have HG2 := Lib.hid (show GS w w2 from (by first | exact HGd.out.over hb | exact HGS.out.over hb)); clear hb))
  all_goals
   go_wp2
   go_meet
   exact ⟨rfl, rfl, HG2.out⟩
 case rest =>
  obtain ⟨rfl, rfl, HS⟩ := hcut
  clear HA HX HAd HGd HGS HRd
  by_cases h0 : e0 = 0
  ·subst h0
   have HSh := Lib.hid HS
   clear HS
   go_upto_region 6 with fail
   go_cut [7, 8] from 29 to 33 (fun e v W' => ∃ P, v = .pointer (some ⟨P, 0, none⟩) ∧ e = .int .i64 e1 ∧ RdSt w w.heap.size P Pg.zero.cells #[.int .i64 p.k, .int .i64 p.id, .int .i64 p.tx, .string p.body] W')
   case first =>
    go_wp2_with (go_at_call 67; (with_reducible refine (HP.out _).mono ?_); rintro e w3 ⟨rfl, hb3⟩; have HG3 := Lib.hid (HSh.out.over hb3); clear hb3)
    go_meet
    exact ⟨_, rfl, rfl, HG3.out.page _⟩
   case rest =>
    obtain ⟨P, rfl, rfl, st⟩ := hcut
    have hG := HG.out
    clear HG HP HSh
    rw [if_neg (by decide)] at hG
    have r0 := (st.rcell 0).trans (show _ = some (Value.int .i64 0) from rfl)
    have r1 := (st.rcell 1).trans (show _ = some (Value.int .i64 0) from rfl)
    have r2 := (st.rcell 2).trans (show _ = some (Value.int .i64 0) from rfl)
    have r3 := (st.rcell 3).trans (show _ = some (Value.string ⟨#[]⟩) from rfl)
    have f0 := st.rfree 0
    have f1 := st.rfree 1
    have f2 := st.rfree 2
    have f3 := st.rfree 3
    have l0 := (st.cell 0).trans (show _ = some (Value.int .i64 p.k) from rfl)
    have l1 := (st.cell 1).trans (show _ = some (Value.int .i64 p.id) from rfl)
    by_cases h1 : e1 = 0
    ·subst h1
     rw [if_neg (by decide)] at hG
     by_cases h2 : p.id = id
     ·have i2 : (p.id != id) = false := by simp [h2]
      by_cases h3 : p.k = 1
      ·have i3 : (p.k == 1) = true := by simp [h3]
       rw [if_pos (.inr h3)] at hG
       subst hG
       clear h2 h3 HM
       go_wp2
       obtain ⟨q1, q2⟩ := st.fin0 (.int .i64 0) (.int .i64 0) (.int .i64 0) (.string ⟨#[]⟩)
       exact bodyPost_ret (page_result rfl _ _ w.heap.size _ rfl q1 rfl) rfl ⟨rfl, HW.out _ q2⟩
      ·have i3 : (p.k == 1) = false := by simp [h3]
       rw [if_neg (fun q => q.elim (fun q => q h2) h3)] at hG
       subst hG
       clear h2 h3 HW r0 r1 r2 r3 f0 f1 f2 f3
       have HE := Lib.hid (HM.out _ _ _ st).2
       have hsd := (HM.out _ _ _ st).1.1
       have c2 := hsd.c2
       have z2 := hsd.free
       have r0 := (HE.out.rcell 0).trans (show _ = some (Value.int .i64 0) from rfl)
       have r1 := (HE.out.rcell 1).trans (show _ = some (Value.int .i64 0) from rfl)
       have r2 := (HE.out.rcell 2).trans (show _ = some (Value.int .i64 0) from rfl)
       have r3 := (HE.out.rcell 3).trans (show _ = some (Value.string ⟨#[]⟩) from rfl)
       have f0 := HE.out.rfree 0
       have f1 := HE.out.rfree 1
       have f2 := HE.out.rfree 2
       have f3 := HE.out.rfree 3
       have m0 := (HE.out.cell 0).trans (show _ = some (Value.int .i64 p.k) from rfl)
       have m1 := (HE.out.cell 1).trans (show _ = some (Value.int .i64 p.id) from rfl)
       have m2 := (HE.out.cell 2).trans (show _ = some (Value.int .i64 p.tx) from rfl)
       have m3 := (HE.out.cell 3).trans (show _ = some (Value.string p.body) from rfl)
       have HC := Lib.hid (ct_add _ _ n 1 c2 z2)
       clear hsd HM
       go_wp2_with (go_at_call 68; (with_reducible refine (HC.out).mono ?_); rintro e w4 ⟨rfl, rfl⟩)
       obtain ⟨q1, q2⟩ := HE.out.fin (.int .i64 p.k) (.int .i64 p.id) (.int .i64 p.tx) (.string p.body)
       exact bodyPost_ret (page_result rfl _ _ w.heap.size _ rfl q1 rfl) rfl ⟨rfl, q2⟩
     ·have i2 : (p.id != id) = true := by simp [h2]
      rw [if_pos (.inl h2)] at hG
      subst hG
      clear h2 HM
      go_wp2
      obtain ⟨q1, q2⟩ := st.fin0 (.int .i64 0) (.int .i64 0) (.int .i64 0) (.string ⟨#[]⟩)
      exact bodyPost_ret (page_result rfl _ _ w.heap.size _ rfl q1 rfl) rfl ⟨rfl, HW.out _ q2⟩
    ·have k1 : (e1 != 0) = true := by simp [h1]
     rw [if_pos h1] at hG
     subst hG
     clear HM
     go_wp2
     obtain ⟨q1, q2⟩ := st.fin0 (.int .i64 0) (.int .i64 0) (.int .i64 0) (.string ⟨#[]⟩)
     exact bodyPost_ret (page_result rfl _ _ w.heap.size _ rfl q1 rfl) rfl ⟨rfl, HW.out _ q2⟩
  ·have k0 : (e0 != 0) = true := by simp [h0]
   have r0 := (P3.cell_at HS.res 0).trans (show _ = some (Value.int .i64 0) from rfl)
   have r1 := (P3.cell_at HS.res 1).trans (show _ = some (Value.int .i64 0) from rfl)
   have r2 := (P3.cell_at HS.res 2).trans (show _ = some (Value.int .i64 0) from rfl)
   have r3 := (P3.cell_at HS.res 3).trans (show _ = some (Value.string ⟨#[]⟩) from rfl)
   have f0 := P3.free_at HS.res 0
   have f1 := P3.free_at HS.res 1
   have f2 := P3.free_at HS.res 2
   have f3 := P3.free_at HS.res 3
   have hG := HG.out
   rw [if_pos h0] at hG
   subst hG
   clear HM HG HP
   go_wp2
   obtain ⟨q1, q2⟩ := HS.fin0 (.int .i64 0) (.int .i64 0) (.int .i64 0) (.string ⟨#[]⟩)
   exact bodyPost_ret (page_result rfl _ _ w.heap.size _ rfl q1 rfl) rfl ⟨rfl, HW.out _ q2⟩
end
end Go.Proofs.YtbkngnjkaledlaaGreat.P8
namespace Go.Proofs.YtbkngnjkaledlaaGreat.P8
open Go Go.RowKit Go.Lib Go.Maps Go.ChangeMaps Go.MapKept P3 P4
open P5 (Pg readP rread_any RdSt page_result)
def getR (D : RM) (s : ByteArray) (id : Int) : Pg × Int :=
 if (P4.readR D s id).2 ≠ 0 then (Pg.zero, (P4.readR D s id).2)
 else if P5.readE (P4.readR D s id).1 ≠ 0 then (Pg.zero, P5.readE (P4.readR D s id).1)
 else if (readP (P4.readR D s id).1).id ≠ id ∨ (readP (P4.readR D s id).1).k = 1 then (Pg.zero, 25)
 else (readP (P4.readR D s id).1, 0)
section
variable {a W W' : World} {b r : Nat} {s : ByteArray} {D : RM} {ks : List Int}
theorem FB.rat (h : FB a W b r s D ks) : RAt a.heap.size W r D := h.at'
theorem FB.get (h : FB a W b r s D ks) (id : Int) :
  Calls Tryz.prog 18 #[.pointer (some ⟨b, 0, none⟩), .int .i64 id] W fun e w2 => e = .returned (.tuple #[(getR D s id).1.v, .int .i64 (getR D s id).2]) ∧ Below W.heap.size W w2 := by
 obtain ⟨G, hG⟩ : ∃ G, G = getR D s id := ⟨_, rfl⟩
 obtain ⟨bb, hbb⟩ : ∃ x, x = (P4.readR D s id).1 := ⟨_, rfl⟩
 obtain ⟨e0, he0⟩ : ∃ x, x = (P4.readR D s id).2 := ⟨_, rfl⟩
 have HRd : Hid (∀ W', RAt a.heap.size W' r D → Calls Tryz.prog 66 #[.pointer (some ⟨r, 0, none⟩), .string s, .int .i64 id] W' fun e w' => e = .returned (.tuple #[.string bb, .int .i64 e0]) ∧ Below W'.heap.size W' w') := fun W' hb => by rw [hbb, he0]; exact hb.read s id
 rw [← hG]
 unfold getR at hG
 rw [← hbb, ← he0] at hG
 clear hbb he0
 obtain ⟨p, hp⟩ : ∃ p, p = readP bb := ⟨_, rfl⟩
 obtain ⟨e1, he1⟩ : ∃ e, e = P5.readE bb := ⟨_, rfl⟩
 have HP : Hid (∀ W', Calls Tryz.prog 69 #[.string bb] W' fun e w' => e = .returned (.tuple #[.agg #[.int .i64 p.k, .int .i64 p.id, .int .i64 p.tx, .string p.body], .int .i64 e1]) ∧ Below W'.heap.size W' w') := fun W' => by rw [hp, he1]; exact rread_any W' bb
 rw [← hp, ← he1] at hG
 clear hp he1
 have HG := Lib.hid hG
 clear hG
 have HA := Lib.hid (h.over (below_new W (.cells #[.int .i64 0, .int .i64 0, .int .i64 0, .string ⟨#[]⟩] 47)))
 have HX : Hid (∀ W', FB a W' b r s D ks → W'.cell? ⟨b, 0, none⟩ = some (.pointer (some ⟨r, 0, none⟩)) ∧ W'.cell? ⟨b, 1, none⟩ = some (.string s)) := fun _ k => k.cells
 have HGS := Lib.hid (GS.made W)
 have HAd := Lib.hid (HA.out.over (Below.refl _ _).drew)
 have HGd := Lib.hid (HGS.out.over (Below.refl _ _).drew)
 clear h
 go_enter Tryz.func18, Tryz.ntmps18
 go_upto_region 1 with fail
 go_cut [6, 7] from 10 to 22 (fun v e W' => v = .string bb ∧ e = .int .i64 e0 ∧ GS W W')
 case first =>
  go_region_held3 (fun W' => W'.cell? ⟨b, 0, none⟩ = some (.pointer (some ⟨r, 0, none⟩)) ∧ W'.cell? ⟨b, 1, none⟩ = some (.string s)) (first | exact HX.out _ HA.out | exact HX.out _ HAd.out | exact HX.out _ H2.out)
   ((go_at_call 66; (with_reducible refine (HRd.out _ (by first | exact HAd.out.rat | exact HA.out.rat)).mono ?_); rintro e w2 ⟨rfl, hb⟩; have H2 := Lib.hid (show FB a w2 b r s D ks from (by first | exact HAd.out.over hb | exact HA.out.over hb)); have HG2 := Lib.hid (show GS W w2 from (by first | exact HGd.out.over hb | exact HGS.out.over hb)); clear hb))
  all_goals
   go_wp2
   go_meet
   exact ⟨rfl, rfl, HG2.out⟩
 case rest =>
  obtain ⟨rfl, rfl, HS⟩ := hcut
  clear HA HX HAd HGd HGS HRd
  by_cases h0 : e0 = 0
  ·subst h0
   have HSh := Lib.hid HS
   clear HS
   go_upto_region 4 with fail
   go_cut [8, 9] from 27 to 31 (fun v e W' => ∃ P, v = .pointer (some ⟨P, 0, none⟩) ∧ e = .int .i64 e1 ∧ RdSt W W.heap.size P Pg.zero.cells #[.int .i64 p.k, .int .i64 p.id, .int .i64 p.tx, .string p.body] W')
   case first =>
    go_wp2_with (go_at_call 69; (with_reducible refine (HP.out _).mono ?_); rintro e w3 ⟨rfl, hb3⟩; have HG3 := Lib.hid (HSh.out.over hb3); clear hb3)
    go_meet
    exact ⟨_, rfl, rfl, HG3.out.page _⟩
   case rest =>
    obtain ⟨P, rfl, rfl, st⟩ := hcut
    have hG := HG.out
    clear HG HP HSh
    rw [if_neg (by decide)] at hG
    have r0 := (st.rcell 0).trans (show _ = some (Value.int .i64 0) from rfl)
    have r1 := (st.rcell 1).trans (show _ = some (Value.int .i64 0) from rfl)
    have r2 := (st.rcell 2).trans (show _ = some (Value.int .i64 0) from rfl)
    have r3 := (st.rcell 3).trans (show _ = some (Value.string ⟨#[]⟩) from rfl)
    have f0 := st.rfree 0
    have f1 := st.rfree 1
    have f2 := st.rfree 2
    have f3 := st.rfree 3
    have l0 := (st.cell 0).trans (show _ = some (Value.int .i64 p.k) from rfl)
    have l1 := (st.cell 1).trans (show _ = some (Value.int .i64 p.id) from rfl)
    have l2 := (st.cell 2).trans (show _ = some (Value.int .i64 p.tx) from rfl)
    have l3 := (st.cell 3).trans (show _ = some (Value.string p.body) from rfl)
    by_cases h1 : e1 = 0
    ·subst h1
     rw [if_neg (by decide)] at hG
     by_cases h2 : p.id = id
     ·have i2 : (p.id != id) = false := by simp [h2]
      by_cases h3 : p.k = 1
      ·have i3 : (p.k == 1) = true := by simp [h3]
       rw [if_pos (.inr h3)] at hG
       subst hG
       clear h2 h3
       go_wp2
       obtain ⟨q1, q2⟩ := st.fin0 (.int .i64 0) (.int .i64 0) (.int .i64 0) (.string ⟨#[]⟩)
       exact bodyPost_ret (page_result rfl _ _ W.heap.size _ rfl q1 rfl) rfl ⟨rfl, q2⟩
      ·have i3 : (p.k == 1) = false := by simp [h3]
       rw [if_neg (fun q => q.elim (fun q => q h2) h3)] at hG
       subst hG
       clear h2 h3
       go_wp2
       obtain ⟨q1, q2⟩ := st.fin0 (.int .i64 p.k) (.int .i64 p.id) (.int .i64 p.tx) (.string p.body)
       exact bodyPost_ret (page_result rfl _ _ W.heap.size _ rfl q1 rfl) rfl ⟨rfl, q2⟩
     ·have i2 : (p.id != id) = true := by simp [h2]
      rw [if_pos (.inl h2)] at hG
      subst hG
      clear h2
      go_wp2
      obtain ⟨q1, q2⟩ := st.fin0 (.int .i64 0) (.int .i64 0) (.int .i64 0) (.string ⟨#[]⟩)
      exact bodyPost_ret (page_result rfl _ _ W.heap.size _ rfl q1 rfl) rfl ⟨rfl, q2⟩
    ·have k1 : (e1 != 0) = true := by simp [h1]
     rw [if_pos h1] at hG
     subst hG
     go_wp2
     obtain ⟨q1, q2⟩ := st.fin0 (.int .i64 0) (.int .i64 0) (.int .i64 0) (.string ⟨#[]⟩)
     exact bodyPost_ret (page_result rfl _ _ W.heap.size _ rfl q1 rfl) rfl ⟨rfl, q2⟩
  ·have k0 : (e0 == 0) = false := beq_eq_false_iff_ne.2 h0
   have r0 := (cell_at HS.res 0).trans (show _ = some (Value.int .i64 0) from rfl)
   have r1 := (cell_at HS.res 1).trans (show _ = some (Value.int .i64 0) from rfl)
   have r2 := (cell_at HS.res 2).trans (show _ = some (Value.int .i64 0) from rfl)
   have r3 := (cell_at HS.res 3).trans (show _ = some (Value.string ⟨#[]⟩) from rfl)
   have f0 := free_at HS.res 0
   have f1 := free_at HS.res 1
   have f2 := free_at HS.res 2
   have f3 := free_at HS.res 3
   go_wp2
   obtain ⟨q1, q2⟩ := HS.fin0 (.int .i64 0) (.int .i64 0) (.int .i64 0) (.string ⟨#[]⟩)
   have hG := HG.out
   rw [if_pos h0] at hG
   subst hG
   exact bodyPost_ret (page_result rfl _ _ W.heap.size _ rfl q1 rfl) rfl ⟨rfl, q2⟩
end
end Go.Proofs.YtbkngnjkaledlaaGreat.P8
