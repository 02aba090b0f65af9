/-
  Texts of the proof of SaidPlays, side by side: LawPlays.
-/
import Derived.Test.YtaabepiddbnggaaGreatMp51
import Derived.Test.YtaabepiddbnggaaGreatMp17
/-
  P401 to P404: every disk, and every call, in every order: the walk of the statement DiskPlays.
-/
namespace Go.Proofs.YtaabepiddbnggaaGreat.P4
open Go Go.RowKit Go.Lib Go.Maps Go.ChangeMaps Go.MapKept Go.Proofs.YtaabepiddbnggaaGreat.P3

set_option maxRecDepth 100000 in
set_option maxHeartbeats 8000000 in
theorem plays_walk (w : World) (room : Int) (v : Value) (l : List OpV) (hl : ActsIn w v l) (nm : ByteArray) (hnm : nm.size ≤ maxLen) :
    Calls Tryz.prog 3 #[.int .i64 room, v, .string nm] w fun e w' => e = .returned (.bool true) ∧ Below w.heap.size w w' := by
  have HA := Lib.hid (fun w => alive_any4 w)
  have HL1 := Lib.hid (light_any w _ l hl)
  have HIn := Lib.hid hl
  obtain ⟨a, c, rfl, -, -⟩ := id hl
  clear hl
  go_enter Tryz.func3, Tryz.ntmps3
  go_upto_region 1 with fail
  go_cut [25] from 14 to 25 (fun v W => ∃ b, v = .bool b ∧ Hid (b = false → LightOk l) ∧ Hid (Below w.heap.size w W))
  case first =>
    by_cases hn : nm.size ≤ 100
    · have kn : decide (100 < nm.size) = false := decide_eq_false (by omega)
      have kn' : decide ((100 : Int) < (nm.size : Int)) = false := decide_eq_false (by omega)
      clear hn
      go_wp2_with (first
        | (go_at_call 4; (with_reducible refine HL1.out.mono ?_); rintro e w2 ⟨⟨b1, rfl, h1⟩, hB⟩; have H1 := Lib.hid h1; have HB := Lib.hid hB; clear h1 hB)
        | (go_at_call 5; (with_reducible refine (HA.out _).mono ?_); rintro e w4 ⟨rfl, hB⟩; have HB := Lib.hid (thenBelow HB.out hB); clear hB))
      all_goals
        go_meet
        first
          | exact ⟨true, rfl, Lib.hid (fun h => by cases h), HB⟩
          | exact ⟨false, rfl, Lib.hid (fun _ => H1.out (by assumption)), HB⟩
          | exact ⟨false, rfl, Lib.hid (fun _ => H1.out rfl), HB⟩
    · have kn : decide (100 < nm.size) = true := decide_eq_true (by omega)
      have kn' : decide ((100 : Int) < (nm.size : Int)) = true := decide_eq_true (by omega)
      clear hn
      go_wp2_with (first
        | (go_at_call 4; (with_reducible refine HL1.out.mono ?_); rintro e w2 ⟨⟨b1, rfl, h1⟩, hB⟩; have HB := Lib.hid hB; clear h1 hB)
        | (go_at_call 5; (with_reducible refine (HA.out _).mono ?_); rintro e w4 ⟨rfl, hB⟩; have HB := Lib.hid (thenBelow HB.out hB); clear hB))
      all_goals
        go_meet
        exact ⟨true, rfl, Lib.hid (fun h => by cases h), HB⟩
  case rest =>
    obtain ⟨b, rfl, hOk, hB⟩ := hcut
    cases b with
    | true =>
      go_wp2_with (go_at_call 5; (with_reducible refine (HA.out _).mono ?_); rintro e w1 ⟨rfl, hb⟩; have HBe := Lib.hid (thenBelow hB.out hb); clear hb)
      go_ret
      exact ⟨rfl, HBe.out⟩
    | false =>
      have hlo := hOk.out rfl
      have hlen := hlo.1
      have HLo := Lib.hid hlo.2
      have HBW := Lib.hid hB.out
      clear HL1 hOk hB hlo HA
      go_wp2_with (go_at_call 6; (with_reducible refine (new_disk _ room).mono ?_); rintro e w1 ⟨rfl, hb1, hn1⟩; have HN := Lib.hid (plays_new HBW.out hb1 hn1); clear hb1 hn1)
      have HR := Lib.hid (Rnd.of HN.out)
      have HInW := HIn
      clear HN HIn
      go_loopw [7, 8, 10] (fun vd vr vi wr => ∃ (d r i : Nat), i ≤ l.length ∧ vd = .pointer (some ⟨d, 0, none⟩) ∧ vr = .pointer (some ⟨r, 0, none⟩) ∧ vi = .int .i64 i ∧ Hid (Rnd w wr d r (w1.heap.size + 1) i)) (fun _ _ vi _ => l.length - (RowKit.intOf vi).toNat)
      case atStart => exact ⟨_, _, 0, Nat.zero_le _, rfl, rfl, rfl, HR⟩
      case round =>
        clear HR
        obtain ⟨d, r, i, hi, rfl, rfl, rfl, HR⟩ := hrel
        by_cases hil : i < l.length
        · obtain ⟨p, hp⟩ : ∃ p, l[i]? = some p := ⟨_, List.getElem?_eq_getElem hil⟩
          obtain ⟨a2, c2, e, _, hcc⟩ := HInW.out
          simp only [Value.slice.injEq, true_and] at e
          obtain ⟨rfl, rfl⟩ := e
          obtain ⟨b, off, rfl, hbl, hcc⟩ := hcc (by omega)
          have HCs : Hid (∀ (j : Nat) (o : OpV), l[j]? = some o → (∀ W, Below w.heap.size w W → W.cell? ⟨b, off + j * 7, none⟩ = some (.int .i64 o.kind) ∧ W.cell? ⟨b, off + j * 7 + 1, none⟩ = some (.string o.S) ∧ W.cell? ⟨b, off + j * 7 + 2, none⟩ = some (.string o.T) ∧ W.cell? ⟨b, off + j * 7 + 3, none⟩ = some (.int .i64 o.A) ∧ W.cell? ⟨b, off + j * 7 + 4, none⟩ = some (.int .i64 o.B) ∧ W.cell? ⟨b, off + j * 7 + 5, none⟩ = some (.bool o.own) ∧ W.cell? ⟨b, off + j * 7 + 6, none⟩ = some (.slice o.a o.L.length o.c)) ∧ ActOk w o ∧ o.L.length ≤ 10000) := fun j o hj => by
            obtain ⟨hcells, hok⟩ := hcc j o hj
            have hc : ∀ W, Below w.heap.size w W → ∀ k u, o.cells.toList[k]? = some u → W.cell? ⟨b, off + j * 7 + k, none⟩ = some u := fun W hW k u hk => by rw [hW.cell (p := ⟨b, off + j * 7 + k, none⟩) hbl]; exact hcells k u hk
            exact ⟨fun W hW => ⟨hc W hW 0 _ rfl, hc W hW 1 _ rfl, hc W hW 2 _ rfl, hc W hW 3 _ rfl, hc W hW 4 _ rfl, hc W hW 5 _ rfl, hc W hW 6 _ rfl⟩, hok, by have := (HLo.out o (List.mem_of_getElem? hj)).2.2; omega⟩
          clear hcc hbl
          obtain ⟨hc0, hok, hL⟩ := HCs.out i p hp
          have HCell := Lib.hid hc0
          have HOk := Lib.hid hok
          have HLl := Lib.hid hL
          obtain ⟨q0, q1, q2, q3, q4, q5, q6⟩ := hc0 wr HR.out.below
          have b0 : (0 : Int) ≤ (i : Int) := by omega
          have b1 : (i : Int) < (l.length : Int) := by omega
          have hi60 : i ≤ 60 := by omega
          clear hc0 hok hL
          by_cases hk : p.kind = 11
          · have k0 : (p.kind == 11) = true := beq_iff_eq.2 hk
            clear hk
            go_upto_region 15 with (first
              | (go_at_call 7; (with_reducible refine HR.out.twin1.mono ?_); rintro e w2 ⟨t, rfl, h⟩; have HM := Lib.hid h; clear h)
              | (go_at_call 8; (with_reducible refine HM.out.twin2.mono ?_); rintro e w3 ⟨u, rfl, h⟩; have HD := Lib.hid h; obtain ⟨r0, r1, r2, r3, r4, r5, r6⟩ := HCell.out _ h.below; clear h))
            clear HR HM
            go_cut [60] from 54 to 60 (fun v W => ∃ c, v = .bool c ∧ W = w3)
            case first =>
              go_wp2
              all_goals
                go_meet
                exact ⟨_, rfl, rfl⟩
            case rest =>
              obtain ⟨c9, rfl, rfl⟩ := hcut
              clear r0 r1 r2 r3 r4 r5 r6
              cases c9 with
              | true =>
                have HD3 := Lib.hid HD.out.swap
                have HBe := HD3.out.below
                clear HD
                by_cases hi1 : i + 1 < l.length
                · obtain ⟨p1, hp1⟩ : ∃ p, l[i + 1]? = some p := ⟨_, List.getElem?_eq_getElem hi1⟩
                  obtain ⟨hd0, hok1, hL1⟩ := HCs.out (i + 1) p1 hp1
                  obtain ⟨s0, s1, s2, s3, s4, s5, s6⟩ := hd0 _ HBe
                  have HOk1 := Lib.hid hok1
                  have HLl1 := Lib.hid hL1
                  have b2 : (i : Int) + 1 < (l.length : Int) := by omega
                  have b3 : (0 : Int) ≤ (i : Int) + 1 := by omega
                  clear hd0 hok1 hL1 HBe
                  by_cases hk1 : p1.kind = 11
                  · have k1 : (p1.kind != 11) = false := by rw [hk1]; rfl
                    have HE := Lib.hid HD3.out.end_
                    clear hk1
                    go_wp2_with (first
                      | (go_at_call 10; (with_reducible refine (HE.out.same2 hi60).mono ?_); rintro e w5 ⟨rfl, h⟩; have HE1 := Lib.hid h; clear h)
                      | (go_at_call 10; (with_reducible refine (HE1.out.same1 hi60).mono ?_); rintro e w6 ⟨rfl, h⟩; have HR6 := Lib.hid h; clear h))
                    go_roundw
                    case rel => exact ⟨t, u, i + 1, by omega, rfl, rfl, by go_num, HR6⟩
                    case measure => simp [RowKit.intOf]; omega
                  · have k1 : (p1.kind != 11) = true := bne_iff_ne.2 hk1
                    clear hk1
                    go_wp2_with (first
                      | (go_at_call 9; (with_reducible refine (HD3.out.act hi60 p1 HOk1.out HLl1.out).mono ?_); rintro e w4 ⟨rfl, h⟩; have HE := Lib.hid h; clear h)
                      | (go_at_call 10; (with_reducible refine (HE.out.same2 hi60).mono ?_); rintro e w5 ⟨rfl, h⟩; have HE1 := Lib.hid h; clear h)
                      | (go_at_call 10; (with_reducible refine (HE1.out.same1 hi60).mono ?_); rintro e w6 ⟨rfl, h⟩; have HR6 := Lib.hid h; clear h))
                    go_roundw
                    case rel => exact ⟨t, u, i + 1, by omega, rfl, rfl, by go_num, HR6⟩
                    case measure => simp [RowKit.intOf]; omega
                · have b2 : ¬ (i : Int) + 1 < (l.length : Int) := by omega
                  have b2' : decide ((i : Int) + 1 < (l.length : Int)) = false := decide_eq_false b2
                  have HE := Lib.hid HD3.out.end_
                  clear HBe
                  go_wp2_with (first
                    | (go_at_call 10; (with_reducible refine (HE.out.same2 hi60).mono ?_); rintro e w5 ⟨rfl, h⟩; have HE1 := Lib.hid h; clear h)
                    | (go_at_call 10; (with_reducible refine (HE1.out.same1 hi60).mono ?_); rintro e w6 ⟨rfl, h⟩; have HR6 := Lib.hid h; clear h))
                  go_roundw
                  case rel => exact ⟨t, u, i + 1, by omega, rfl, rfl, by go_num, HR6⟩
                  case measure => simp [RowKit.intOf]; omega
              | false =>
                have HD3 := HD
                have HBe := HD3.out.below
                clear HD
                by_cases hi1 : i + 1 < l.length
                · obtain ⟨p1, hp1⟩ : ∃ p, l[i + 1]? = some p := ⟨_, List.getElem?_eq_getElem hi1⟩
                  obtain ⟨hd0, hok1, hL1⟩ := HCs.out (i + 1) p1 hp1
                  obtain ⟨s0, s1, s2, s3, s4, s5, s6⟩ := hd0 _ HBe
                  have HOk1 := Lib.hid hok1
                  have HLl1 := Lib.hid hL1
                  have b2 : (i : Int) + 1 < (l.length : Int) := by omega
                  have b3 : (0 : Int) ≤ (i : Int) + 1 := by omega
                  clear hd0 hok1 hL1 HBe
                  by_cases hk1 : p1.kind = 11
                  · have k1 : (p1.kind != 11) = false := by rw [hk1]; rfl
                    have HE := Lib.hid HD3.out.end_
                    clear hk1
                    go_wp2_with (first
                      | (go_at_call 10; (with_reducible refine (HE.out.same2 hi60).mono ?_); rintro e w5 ⟨rfl, h⟩; have HE1 := Lib.hid h; clear h)
                      | (go_at_call 10; (with_reducible refine (HE1.out.same1 hi60).mono ?_); rintro e w6 ⟨rfl, h⟩; have HR6 := Lib.hid h; clear h))
                    go_roundw
                    case rel => exact ⟨d, r, i + 1, by omega, rfl, rfl, by go_num, HR6⟩
                    case measure => simp [RowKit.intOf]; omega
                  · have k1 : (p1.kind != 11) = true := bne_iff_ne.2 hk1
                    clear hk1
                    go_wp2_with (first
                      | (go_at_call 9; (with_reducible refine (HD3.out.act hi60 p1 HOk1.out HLl1.out).mono ?_); rintro e w4 ⟨rfl, h⟩; have HE := Lib.hid h; clear h)
                      | (go_at_call 10; (with_reducible refine (HE.out.same2 hi60).mono ?_); rintro e w5 ⟨rfl, h⟩; have HE1 := Lib.hid h; clear h)
                      | (go_at_call 10; (with_reducible refine (HE1.out.same1 hi60).mono ?_); rintro e w6 ⟨rfl, h⟩; have HR6 := Lib.hid h; clear h))
                    go_roundw
                    case rel => exact ⟨d, r, i + 1, by omega, rfl, rfl, by go_num, HR6⟩
                    case measure => simp [RowKit.intOf]; omega
                · have b2 : ¬ (i : Int) + 1 < (l.length : Int) := by omega
                  have b2' : decide ((i : Int) + 1 < (l.length : Int)) = false := decide_eq_false b2
                  have HE := Lib.hid HD3.out.end_
                  clear HBe
                  go_wp2_with (first
                    | (go_at_call 10; (with_reducible refine (HE.out.same2 hi60).mono ?_); rintro e w5 ⟨rfl, h⟩; have HE1 := Lib.hid h; clear h)
                    | (go_at_call 10; (with_reducible refine (HE1.out.same1 hi60).mono ?_); rintro e w6 ⟨rfl, h⟩; have HR6 := Lib.hid h; clear h))
                  go_roundw
                  case rel => exact ⟨d, r, i + 1, by omega, rfl, rfl, by go_num, HR6⟩
                  case measure => simp [RowKit.intOf]; omega
          · have k0 : (p.kind == 11) = false := beq_eq_false_iff_ne.2 hk
            clear hk
            go_wp2_with (first
              | (go_at_call 9; (with_reducible refine (HR.out.act hi60 p HOk.out HLl.out).mono ?_); rintro e w2 ⟨rfl, h⟩; have HR1 := Lib.hid h; clear h)
              | (go_at_call 10; (with_reducible refine (HR1.out.same hi60).mono ?_); rintro e w3 ⟨rfl, h⟩; have HR2 := Lib.hid h; clear h)
              | (go_at_call 11; (with_reducible refine (HR2.out.list hi60 nm).mono ?_); rintro e w4 ⟨v4, L, rfl, h⟩; have HR3 := Lib.hid h; clear h)
              | (go_at_call 12; (with_reducible refine (HR3.out.keep hi60).mono ?_); rintro e w5 ⟨rfl, h⟩; have HR4 := Lib.hid h; clear h)
              | (go_at_call 14; (with_reducible refine (HR4.out.list2 hi60).mono ?_); rintro e w6 ⟨v6, rfl, h, ht⟩; have HR5 := Lib.hid h; have HT := Lib.hid ht; clear h ht)
              | (go_at_call 13; (with_reducible refine (same_self HR5.out.texts HT.out).mono ?_); rintro e w7 ⟨rfl, hb⟩; have HR6 := Lib.hid (HR5.out.over hb).rnd; clear hb))
            go_roundw
            case rel => exact ⟨d, r, i + 1, by omega, rfl, rfl, by go_num, HR6⟩
            case measure => simp [RowKit.intOf]; omega
        · clear HInW HLo
          obtain rfl : i = l.length := by omega
          go_wp2_with (go_at_call 15; (with_reducible refine HR.out.apart.mono ?_); rintro e w2 ⟨rfl, h⟩; have HE := Lib.hid h; clear h)
          go_ret
          exact ⟨rfl, HE.out⟩

end Go.Proofs.YtaabepiddbnggaaGreat.P4
