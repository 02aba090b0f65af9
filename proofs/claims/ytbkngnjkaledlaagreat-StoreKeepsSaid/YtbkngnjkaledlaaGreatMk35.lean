/-
  Texts of the proof of SaidKeeps8, side by side: Pg12.
-/
import Derived.Test.YtbkngnjkaledlaaGreatMk34
import Derived.Deep.CutRange
import Derived.Deep.CutBlock
/-
  The reference's ReadPage, by contracts.
-/
namespace Go.Proofs.YtbkngnjkaledlaaGreat.P5
open Go Go.RowKit Go.Lib Go.Proofs.YtbkngnjkaledlaaGreat.P0 Go.Proofs.YtbkngnjkaledlaaGreat.P2

theorem rread_len_any (w : World) (b : ByteArray) (h : b.size ≠ 256) :
    Calls Tryz.prog 69 #[.string b] w fun r w' => r = .returned (.tuple #[Pg.zero.v, .int .i64 5]) ∧ Below w.heap.size w w' := by
  have k1 : ((b.size : Int) != 256) = true := by simp; omega
  clear h
  go_enter Tryz.func69, Tryz.ntmps69
  go_wp2
  exact bodyPost_ret (page_result rfl _ _ w.heap.size _ rfl (new_at w _ _) rfl) rfl ⟨rfl, below_new _ _⟩
theorem rread_long_any (w : World) (b : ByteArray) (h : b.size = 256) (hn : ¬ nOf b.data.toList ≤ 232) :
    Calls Tryz.prog 69 #[.string b] w fun r w' => r = .returned (.tuple #[Pg.zero.v, .int .i64 6]) ∧ Below w.heap.size w w' := by
  have k1 : ((b.size : Int) != 256) = false := by simp; omega
  have i1 : 1 < b.size := by omega
  have e1 := size_at b i1
  have k2 : decide ((232 : Int) < (nOf b.data.toList : Int)) = true := decide_eq_true (by omega)
  have k3 : decide (232 < nOf b.data.toList) = true := decide_eq_true (by omega)
  clear h hn
  go_enter Tryz.func69, Tryz.ntmps69
  go_wp2
  exact bodyPost_ret (page_result rfl _ _ w.heap.size _ rfl (new_at w _ _) rfl) rfl ⟨rfl, below_new _ _⟩

theorem cut_list (b : ByteArray) (i j : Nat) : (b.extract i j).data.toList = (b.data.toList.drop i).take (j - i) := Lib.extract_data ..
theorem wrap_is (x : Nat) : IntKind.i64.wrap (x : Int) = wrap64 (x : Int) := by
  rw [IntKind.wrap_i64]
  unfold wrap64
  rfl

theorem RdSt.made (w : World) (cp : Array Value) : RdSt w w.heap.size (w.heap.size + 1) Pg.zero.cells cp ((w.alloc (.cells Pg.zero.cells 47)).alloc (.cells cp 47)).drew := by
  have hB := (((Below.refl w.heap.size w).alloc (Nat.le_refl _) (.cells Pg.zero.cells 47)).alloc (by simp) (.cells cp 47)).drew
  refine ⟨?_, ?_, by omega, hB, by omega, by omega⟩
  · show ((w.alloc (.cells Pg.zero.cells 47)).alloc (.cells cp 47)).heap[w.heap.size]? = _
    rw [Below.heap_alloc _ _ _ (by simp)]; exact new_at w _ _
  · have := new_at (w.alloc (.cells Pg.zero.cells 47)) cp 47
    show ((w.alloc (.cells Pg.zero.cells 47)).alloc (.cells cp 47)).heap[w.heap.size + 1]? = _
    simpa using this
theorem RdSt.fin0 {w0 : World} {r p : Nat} {cp : Array Value} {w : World} (h : RdSt w0 r p Pg.zero.cells cp w) (a b c d : Value) :
    (((((w.setCell ⟨r, 0, none⟩ a).setCell ⟨r, 1, none⟩ b).setCell ⟨r, 2, none⟩ c).setCell ⟨r, 3, none⟩ d).heap[r]? = some (.cells #[a, b, c, d] 47 (0, 0))) ∧ Below w0.heap.size w0 ((((w.setCell ⟨r, 0, none⟩ a).setCell ⟨r, 1, none⟩ b).setCell ⟨r, 2, none⟩ c).setCell ⟨r, 3, none⟩ d) :=
  ⟨set_at (set_at (set_at (set_at h.res 0 a) 1 b) 2 c) 3 d, (((h.below.setCell h.rlo a).setCell h.rlo b).setCell h.rlo c).setCell h.rlo d⟩

set_option maxRecDepth 100000 in
set_option maxHeartbeats 8000000 in
theorem rread_in_any (w : World) (b : ByteArray) (h : b.size = 256) (hn : nOf b.data.toList ≤ 232) :
    Calls Tryz.prog 69 #[.string b] w fun r w' => r = .returned (.tuple #[(readP b).v, .int .i64 (readE b)]) ∧ Below w.heap.size w w' := by
  have k1 : ((b.size : Int) != 256) = false := by simp; omega
  have i1 : 1 < b.size := by omega
  have i0 : 0 < b.size := by omega
  have e1 := size_at b i1
  have e0 : IntKind.i64.wrap (((b[0]'i0).toNat : Nat) : Int) = (kOf b.data.toList : Int) := by
    have hk : (b[0]'i0).toNat = kOf b.data.toList := by
      unfold kOf
      rw [List.getD_eq_getElem?_getD, List.getElem?_eq_getElem (by rw [text_len]; omega)]
      rfl
    have := (b[0]'i0).toNat_lt
    rw [hk] at this
    rw [hk, IntKind.wrap_i64]
    omega
  have k2 : decide ((232 : Int) < (nOf b.data.toList : Int)) = false := decide_eq_false (by omega)
  have k3 : decide (232 < nOf b.data.toList) = false := decide_eq_false (by omega)
  have N1 := fun W => Lib.hid (rNum_any W (b.extract 2 4) (by rw [ByteArray.size_extract]; omega))
  have N2 := fun W => Lib.hid (rNum_any W (b.extract 8 16) (by rw [ByteArray.size_extract]; omega))
  rw [cut_list] at N1 N2
  have t1 : IntKind.i64.wrap ((num ((b.data.toList.drop 2).take (4 - 2)) : Nat) : Int) = idOf b.data.toList := wrap_is _
  have t2 : IntKind.i64.wrap ((num ((b.data.toList.drop 8).take (16 - 8)) : Nat) : Int) = txOf b.data.toList := wrap_is _
  have HL := fun W => Lib.hid (rValid_any W (Pg.of b))
  have n1 : (16 : Int) ≤ 16 + (nOf b.data.toList : Int) := by omega
  have n2 : 16 + (nOf b.data.toList : Int) ≤ (b.size : Int) := by omega
  have n3 : IntKind.i64.wrap (16 + (nOf b.data.toList : Int)) = 16 + (nOf b.data.toList : Int) := by rw [IntKind.wrap_i64]; omega
  have n4 : (4 : Int) ≤ (b.size : Int) := by omega
  have n5 : (16 : Int) ≤ (b.size : Int) := by omega
  have n6 : (248 : Int) ≤ (b.size : Int) := by omega
  have n7 : (252 : Int) ≤ (b.size : Int) := by omega
  have n8 : (16 + (nOf b.data.toList : Int)).toNat = 16 + nOf b.data.toList := by omega
  have HM := Lib.hid (RdSt.made w (Pg.of b).cells)
  have HP : Hid ((Pg.of b).ok → (Pg.of b).sector.size = 256 ∧ ∀ W, Calls Tryz.prog 38 #[(Pg.of b).v] W fun r w' => r = .returned (.string (Pg.of b).sector) ∧ Below W.heap.size W w') := fun ho => ⟨Pg.sector_size ho, fun W => rLay_ok W _ ho⟩
  have R1 : Hid (¬ (Pg.of b).ok → readP b = Pg.zero ∧ readE b = 6) := fun ho => ⟨if_neg (fun k => ho k.2.1), (if_pos h).trans (if_neg (fun k => ho k.2.1))⟩
  have R2 : Hid (¬ b.extract 0 248 = (Pg.of b).sector.extract 0 248 → readP b = Pg.zero ∧ readE b = 6) := fun hx => ⟨if_neg (fun k => hx (by rw [← k.2.2])), (if_pos h).trans (if_neg (fun k => hx k.2.2.1))⟩
  have R3 : Hid (¬ b.extract 252 b.size = (Pg.of b).sector.extract 252 (Pg.of b).sector.size → readP b = Pg.zero ∧ readE b = 6) := fun hy => ⟨if_neg (fun k => hy (by rw [← k.2.2])), (if_pos h).trans (if_neg (fun k => hy k.2.2.2))⟩
  have R4 : Hid ((Pg.of b).ok → b.extract 0 248 = (Pg.of b).sector.extract 0 248 → b.extract 252 b.size = (Pg.of b).sector.extract 252 (Pg.of b).sector.size → ¬ b = (Pg.of b).sector → readP b = Pg.zero ∧ readE b = 7) := fun ho hx hy hz => ⟨if_neg (fun k => hz k.2.2), (if_pos h).trans ((if_pos ⟨hn, ho, hx, hy⟩).trans (if_neg hz))⟩
  have R5 : Hid ((Pg.of b).ok → b.extract 0 248 = (Pg.of b).sector.extract 0 248 → b.extract 252 b.size = (Pg.of b).sector.extract 252 (Pg.of b).sector.size → b = (Pg.of b).sector → readP b = Pg.of b ∧ readE b = 0) := fun ho hx hy hz => ⟨if_pos ⟨h, ho, hz⟩, (if_pos h).trans ((if_pos ⟨hn, ho, hx, hy⟩).trans (if_pos hz))⟩
  have HV : Hid ((Pg.of b).v = .agg #[.int .i64 (kOf b.data.toList), .int .i64 (idOf b.data.toList), .int .i64 (txOf b.data.toList), .string (b.extract 16 (16 + nOf b.data.toList))]) := rfl
  have HCs : Hid ((Pg.of b).cells = #[.int .i64 (kOf b.data.toList), .int .i64 (idOf b.data.toList), .int .i64 (txOf b.data.toList), .string (b.extract 16 (16 + nOf b.data.toList))]) := rfl
  generalize Pg.of b = P at *
  generalize readP b = RP at *
  generalize readE b = RE at *
  generalize P.sector = S at *
  rw [HV.out] at HL
  have HP2 := HP.out
  rw [HV.out] at HP2
  have HM2 := HM.out
  rw [HCs.out, Pg.zero_cells] at HM2
  have HP := Lib.hid HP2
  have HM := Lib.hid HM2
  clear h hn HP2 HM2 HCs
  generalize kOf b.data.toList = K at *
  generalize idOf b.data.toList = I at *
  generalize txOf b.data.toList = T at *
  generalize nOf b.data.toList = N at *
  go_enter Tryz.func69, Tryz.ntmps69
  go_upto_region 6 with fail
  go_cut [5] from 18 to 33 (fun v wx => v = .pointer (some ⟨w.heap.size + 1, 0, none⟩) ∧ RdSt w w.heap.size (w.heap.size + 1) #[.int .i64 0, .int .i64 0, .int .i64 0, .string ⟨#[]⟩] #[.int .i64 K, .int .i64 I, .int .i64 T, .string (b.extract 16 (16 + N))] wx)
  case first =>
    go_region_held3 (fun _ => True) (trivial)
      ((first
        | (go_at_call 107; (with_reducible refine (N1 _).out.mono ?_); rintro e w2 ⟨rfl, rfl⟩)
        | (go_at_call 107; (with_reducible refine (N2 _).out.mono ?_); rintro e w2 ⟨rfl, rfl⟩)))
    all_goals
      go_wp2_with fail
      go_meet
      exact ⟨rfl, HM.out⟩
  case rest =>
    obtain ⟨rfl, st⟩ := hcut
    have l0 := (st.cell 0).trans (show _ = some (Value.int .i64 K) from rfl)
    have l1 := (st.cell 1).trans (show _ = some (Value.int .i64 I) from rfl)
    have l2 := (st.cell 2).trans (show _ = some (Value.int .i64 T) from rfl)
    have l3 := (st.cell 3).trans (show _ = some (Value.string (b.extract 16 (16 + N))) from rfl)
    by_cases ho : P.ok
    · by_cases hx : b.extract 0 248 = S.extract 0 248
      · by_cases hy : b.extract 252 b.size = S.extract 252 S.size
        · by_cases hz : b = S
          · obtain ⟨hS, HP3⟩ := HP.out ho
            have HP4 := fun W => Lib.hid (HP3 W)
            clear HP3
            have m4 : (248 : Int) ≤ (S.size : Int) := by omega
            have m5 : (252 : Int) ≤ (S.size : Int) := by omega
            clear hS
            rw [decide_eq_true ho] at HL
            obtain ⟨ra, rb⟩ := R5.out ho hx hy hz
            have x1 := same_true hx.symm
            have x2 := same_true hy.symm
            have x3 := same_true hz.symm
            clear hx hy hz
            subst ra rb
            clear ho R1 R2 R3 R4 R5 HP
            go_wp2_with (first
              | (go_at_call 28; (with_reducible refine (HL _).out.mono ?_); rintro e w3 ⟨rfl, hb3⟩; have s6 := st.over hb3; have r0 := (s6.rcell 0).trans (show _ = some (Value.int .i64 0) from rfl); have r1 := (s6.rcell 1).trans (show _ = some (Value.int .i64 0) from rfl); have r2 := (s6.rcell 2).trans (show _ = some (Value.int .i64 0) from rfl); have r3 := (s6.rcell 3).trans (show _ = some (Value.string ⟨#[]⟩) from rfl); have g0 := s6.rfree 0; have g1 := s6.rfree 1; have g2 := s6.rfree 2; have g3 := s6.rfree 3; have m0 := (s6.cell 0).trans (show _ = some (Value.int .i64 K) from rfl); have m1 := (s6.cell 1).trans (show _ = some (Value.int .i64 I) from rfl); have m2 := (s6.cell 2).trans (show _ = some (Value.int .i64 T) from rfl); have m3 := (s6.cell 3).trans (show _ = some (Value.string (b.extract 16 (16 + N))) from rfl))
              | (go_at_call 38; (with_reducible refine (HP4 _).out.mono ?_); rintro e w4 ⟨rfl, hb4⟩; have s7 := s6.over hb4; have r0 := (s7.rcell 0).trans (show _ = some (Value.int .i64 0) from rfl); have r1 := (s7.rcell 1).trans (show _ = some (Value.int .i64 0) from rfl); have r2 := (s7.rcell 2).trans (show _ = some (Value.int .i64 0) from rfl); have r3 := (s7.rcell 3).trans (show _ = some (Value.string ⟨#[]⟩) from rfl); have g0   := s7.rfree 0; have g1   := s7.rfree 1; have g2   := s7.rfree 2; have g3   := s7.rfree 3; have m0 := (s7.cell 0).trans (show _ = some (Value.int .i64 K) from rfl); have m1 := (s7.cell 1).trans (show _ = some (Value.int .i64 I) from rfl); have m2 := (s7.cell 2).trans (show _ = some (Value.int .i64 T) from rfl); have m3 := (s7.cell 3).trans (show _ = some (Value.string (b.extract 16 (16 + N))) from rfl)))
            go_quiet (fail)
            go_wp2
            obtain ⟨q1, q2⟩ := (show RdSt w w.heap.size (w.heap.size + 1) Pg.zero.cells _ _ from s7).fin nq (.int .i64 K) (.int .i64 I) (.int .i64 T) (.string (b.extract 16 (16 + N)))
            exact bodyPost_ret (page_result rfl _ _ w.heap.size _ rfl q1 rfl) rfl ⟨by first | rfl | (rw [HV.out]; rfl), q2⟩
          · obtain ⟨hS, HP3⟩ := HP.out ho
            have HP4 := fun W => Lib.hid (HP3 W)
            clear HP3
            have m4 : (248 : Int) ≤ (S.size : Int) := by omega
            have m5 : (252 : Int) ≤ (S.size : Int) := by omega
            clear hS
            rw [decide_eq_true ho] at HL
            obtain ⟨ra, rb⟩ := R4.out ho hx hy hz
            have x1 := same_true hx.symm
            have x2 := same_true hy.symm
            have x3 := same_false (fun e => hz e.symm)
            clear hx hy hz
            subst ra rb
            clear ho R1 R2 R3 R4 R5 HP
            go_wp2_with (first
              | (go_at_call 28; (with_reducible refine (HL _).out.mono ?_); rintro e w3 ⟨rfl, hb3⟩; have s6 := st.over hb3; have r0 := (s6.rcell 0).trans (show _ = some (Value.int .i64 0) from rfl); have r1 := (s6.rcell 1).trans (show _ = some (Value.int .i64 0) from rfl); have r2 := (s6.rcell 2).trans (show _ = some (Value.int .i64 0) from rfl); have r3 := (s6.rcell 3).trans (show _ = some (Value.string ⟨#[]⟩) from rfl); have g0 := s6.rfree 0; have g1 := s6.rfree 1; have g2 := s6.rfree 2; have g3 := s6.rfree 3; have m0 := (s6.cell 0).trans (show _ = some (Value.int .i64 K) from rfl); have m1 := (s6.cell 1).trans (show _ = some (Value.int .i64 I) from rfl); have m2 := (s6.cell 2).trans (show _ = some (Value.int .i64 T) from rfl); have m3 := (s6.cell 3).trans (show _ = some (Value.string (b.extract 16 (16 + N))) from rfl))
              | (go_at_call 38; (with_reducible refine (HP4 _).out.mono ?_); rintro e w4 ⟨rfl, hb4⟩; have s7 := s6.over hb4; have r0 := (s7.rcell 0).trans (show _ = some (Value.int .i64 0) from rfl); have r1 := (s7.rcell 1).trans (show _ = some (Value.int .i64 0) from rfl); have r2 := (s7.rcell 2).trans (show _ = some (Value.int .i64 0) from rfl); have r3 := (s7.rcell 3).trans (show _ = some (Value.string ⟨#[]⟩) from rfl); have g0   := s7.rfree 0; have g1   := s7.rfree 1; have g2   := s7.rfree 2; have g3   := s7.rfree 3; have m0 := (s7.cell 0).trans (show _ = some (Value.int .i64 K) from rfl); have m1 := (s7.cell 1).trans (show _ = some (Value.int .i64 I) from rfl); have m2 := (s7.cell 2).trans (show _ = some (Value.int .i64 T) from rfl); have m3 := (s7.cell 3).trans (show _ = some (Value.string (b.extract 16 (16 + N))) from rfl)))
            go_quiet (fail)
            go_wp2
            obtain ⟨q1, q2⟩ := (show RdSt w w.heap.size (w.heap.size + 1) Pg.zero.cells _ _ from s7).fin nq (.int .i64 0) (.int .i64 0) (.int .i64 0) (.string ⟨#[]⟩)
            exact bodyPost_ret (page_result rfl _ _ w.heap.size _ rfl q1 rfl) rfl ⟨by first | rfl | (rw [HV.out]; rfl), q2⟩
        · obtain ⟨hS, HP3⟩ := HP.out ho
          have HP4 := fun W => Lib.hid (HP3 W)
          clear HP3
          have m4 : (248 : Int) ≤ (S.size : Int) := by omega
          have m5 : (252 : Int) ≤ (S.size : Int) := by omega
          clear hS
          rw [decide_eq_true ho] at HL
          obtain ⟨ra, rb⟩ := R3.out hy
          have x1 := same_true hx.symm
          have x2 := same_false (fun e => hy e.symm)
          clear hx hy
          subst ra rb
          clear ho R1 R2 R3 R4 R5 HP
          go_wp2_with (first
            | (go_at_call 28; (with_reducible refine (HL _).out.mono ?_); rintro e w3 ⟨rfl, hb3⟩; have s6 := st.over hb3; have r0 := (s6.rcell 0).trans (show _ = some (Value.int .i64 0) from rfl); have r1 := (s6.rcell 1).trans (show _ = some (Value.int .i64 0) from rfl); have r2 := (s6.rcell 2).trans (show _ = some (Value.int .i64 0) from rfl); have r3 := (s6.rcell 3).trans (show _ = some (Value.string ⟨#[]⟩) from rfl); have g0 := s6.rfree 0; have g1 := s6.rfree 1; have g2 := s6.rfree 2; have g3 := s6.rfree 3; have m0 := (s6.cell 0).trans (show _ = some (Value.int .i64 K) from rfl); have m1 := (s6.cell 1).trans (show _ = some (Value.int .i64 I) from rfl); have m2 := (s6.cell 2).trans (show _ = some (Value.int .i64 T) from rfl); have m3 := (s6.cell 3).trans (show _ = some (Value.string (b.extract 16 (16 + N))) from rfl))
            | (go_at_call 38; (with_reducible refine (HP4 _).out.mono ?_); rintro e w4 ⟨rfl, hb4⟩; have s7 := s6.over hb4; have r0 := (s7.rcell 0).trans (show _ = some (Value.int .i64 0) from rfl); have r1 := (s7.rcell 1).trans (show _ = some (Value.int .i64 0) from rfl); have r2 := (s7.rcell 2).trans (show _ = some (Value.int .i64 0) from rfl); have r3 := (s7.rcell 3).trans (show _ = some (Value.string ⟨#[]⟩) from rfl); have g0   := s7.rfree 0; have g1   := s7.rfree 1; have g2   := s7.rfree 2; have g3   := s7.rfree 3; have m0 := (s7.cell 0).trans (show _ = some (Value.int .i64 K) from rfl); have m1 := (s7.cell 1).trans (show _ = some (Value.int .i64 I) from rfl); have m2 := (s7.cell 2).trans (show _ = some (Value.int .i64 T) from rfl); have m3 := (s7.cell 3).trans (show _ = some (Value.string (b.extract 16 (16 + N))) from rfl)))
          go_quiet (fail)
          go_wp2
          obtain ⟨q1, q2⟩ := (show RdSt w w.heap.size (w.heap.size + 1) Pg.zero.cells _ _ from s7).fin nq (.int .i64 0) (.int .i64 0) (.int .i64 0) (.string ⟨#[]⟩)
          exact bodyPost_ret (page_result rfl _ _ w.heap.size _ rfl q1 rfl) rfl ⟨by first | rfl | (rw [HV.out]; rfl), q2⟩
      · obtain ⟨hS, HP3⟩ := HP.out ho
        have HP4 := fun W => Lib.hid (HP3 W)
        clear HP3
        have m4 : (248 : Int) ≤ (S.size : Int) := by omega
        have m5 : (252 : Int) ≤ (S.size : Int) := by omega
        clear hS
        rw [decide_eq_true ho] at HL
        obtain ⟨ra, rb⟩ := R2.out hx
        have x1 := same_false (fun e => hx e.symm)
        clear hx
        subst ra rb
        clear ho R1 R2 R3 R4 R5 HP
        go_wp2_with (first
          | (go_at_call 28; (with_reducible refine (HL _).out.mono ?_); rintro e w3 ⟨rfl, hb3⟩; have s6 := st.over hb3; have r0 := (s6.rcell 0).trans (show _ = some (Value.int .i64 0) from rfl); have r1 := (s6.rcell 1).trans (show _ = some (Value.int .i64 0) from rfl); have r2 := (s6.rcell 2).trans (show _ = some (Value.int .i64 0) from rfl); have r3 := (s6.rcell 3).trans (show _ = some (Value.string ⟨#[]⟩) from rfl); have g0 := s6.rfree 0; have g1 := s6.rfree 1; have g2 := s6.rfree 2; have g3 := s6.rfree 3; have m0 := (s6.cell 0).trans (show _ = some (Value.int .i64 K) from rfl); have m1 := (s6.cell 1).trans (show _ = some (Value.int .i64 I) from rfl); have m2 := (s6.cell 2).trans (show _ = some (Value.int .i64 T) from rfl); have m3 := (s6.cell 3).trans (show _ = some (Value.string (b.extract 16 (16 + N))) from rfl))
          | (go_at_call 38; (with_reducible refine (HP4 _).out.mono ?_); rintro e w4 ⟨rfl, hb4⟩; have s7 := s6.over hb4; have r0 := (s7.rcell 0).trans (show _ = some (Value.int .i64 0) from rfl); have r1 := (s7.rcell 1).trans (show _ = some (Value.int .i64 0) from rfl); have r2 := (s7.rcell 2).trans (show _ = some (Value.int .i64 0) from rfl); have r3 := (s7.rcell 3).trans (show _ = some (Value.string ⟨#[]⟩) from rfl); have g0   := s7.rfree 0; have g1   := s7.rfree 1; have g2   := s7.rfree 2; have g3   := s7.rfree 3; have m0 := (s7.cell 0).trans (show _ = some (Value.int .i64 K) from rfl); have m1 := (s7.cell 1).trans (show _ = some (Value.int .i64 I) from rfl); have m2 := (s7.cell 2).trans (show _ = some (Value.int .i64 T) from rfl); have m3 := (s7.cell 3).trans (show _ = some (Value.string (b.extract 16 (16 + N))) from rfl)))
        go_quiet (fail)
        go_wp2
        obtain ⟨q1, q2⟩ := (show RdSt w w.heap.size (w.heap.size + 1) Pg.zero.cells _ _ from s7).fin nq (.int .i64 0) (.int .i64 0) (.int .i64 0) (.string ⟨#[]⟩)
        exact bodyPost_ret (page_result rfl _ _ w.heap.size _ rfl q1 rfl) rfl ⟨by first | rfl | (rw [HV.out]; rfl), q2⟩
    · rw [decide_eq_false ho] at HL
      obtain ⟨ra, rb⟩ := R1.out ho
      subst ra rb
      clear ho R1 R2 R3 R4 R5 HP
      go_wp2_with (first
        | (go_at_call 28; (with_reducible refine (HL _).out.mono ?_); rintro e w3 ⟨rfl, hb3⟩; have s6 := st.over hb3; have r0 := (s6.rcell 0).trans (show _ = some (Value.int .i64 0) from rfl); have r1 := (s6.rcell 1).trans (show _ = some (Value.int .i64 0) from rfl); have r2 := (s6.rcell 2).trans (show _ = some (Value.int .i64 0) from rfl); have r3 := (s6.rcell 3).trans (show _ = some (Value.string ⟨#[]⟩) from rfl); have g0 := s6.rfree 0; have g1 := s6.rfree 1; have g2 := s6.rfree 2; have g3 := s6.rfree 3; have m0 := (s6.cell 0).trans (show _ = some (Value.int .i64 K) from rfl); have m1 := (s6.cell 1).trans (show _ = some (Value.int .i64 I) from rfl); have m2 := (s6.cell 2).trans (show _ = some (Value.int .i64 T) from rfl); have m3 := (s6.cell 3).trans (show _ = some (Value.string (b.extract 16 (16 + N))) from rfl)))
      obtain ⟨q1, q2⟩ := (show RdSt w w.heap.size (w.heap.size + 1) Pg.zero.cells _ _ from s6).fin0 (.int .i64 0) (.int .i64 0) (.int .i64 0) (.string ⟨#[]⟩)
      exact bodyPost_ret (page_result rfl _ _ w.heap.size _ rfl q1 rfl) rfl ⟨rfl, q2⟩

theorem rread_any (w : World) (b : ByteArray) :
    Calls Tryz.prog 69 #[.string b] w fun r w' => r = .returned (.tuple #[(readP b).v, .int .i64 (readE b)]) ∧ Below w.heap.size w w' := by
  by_cases h : b.size = 256
  · by_cases hn : nOf b.data.toList ≤ 232
    · exact rread_in_any w b h hn
    · have e1 : readP b = Pg.zero := if_neg (fun k => hn (by
        have hk := k.2.1.2.2.2.2.2.2
        unfold Pg.of at hk
        rw [ByteArray.size_extract] at hk
        omega))
      have e2 : readE b = 6 := (if_pos h).trans (if_neg (fun k => hn k.1))
      rw [e1, e2]
      exact rread_long_any w b h hn
  · have e1 : readP b = Pg.zero := if_neg (fun k => h k.1)
    have e2 : readE b = 5 := if_neg h
    rw [e1, e2]
    exact rread_len_any w b h

end Go.Proofs.YtbkngnjkaledlaaGreat.P5
