/-
  Texts of the proof of SaidKeeps8, side by side: LawKeeps8.
-/
import Derived.Test.YtbkngnjkaledlaaGreatMk43
import Derived.Test.YtbkngnjkaledlaaGreatMk44
import Derived.BigQuiet
/-
  StoreKeeps: pages that were written and synced are read as they were: the law's walk. (Written by gen_keeps.py.)
-/
namespace Go.Proofs.YtbkngnjkaledlaaGreat.P8
open Go Go.RowKit Go.Lib Go.Maps Go.ChangeMaps Go.MapKept Go.Proofs.YtbkngnjkaledlaaGreat.P3 Go.Proofs.YtbkngnjkaledlaaGreat.P4
open Go.Proofs.YtbkngnjkaledlaaGreat.P5 (Pg rValid_any)

set_option maxRecDepth 100000 in
set_option maxHeartbeats 8000000 in
theorem keeps_main (w : World) (l late : List Pg) (ks : List Int) (a1 a2 : Option Addr) (c1 c2 : Nat) (v3 : Value) (id : Int) (h1 : PagesIn w (.slice a1 l.length c1) l) (h2 : PagesIn w (.slice a2 late.length c2) late) (h3 : IntsIn w v3 ks) (l1 : l.length ≤ 15) (l2 : late.length ≤ 15) (hlen3 : ∃ x y z, v3 = .slice x y z ∧ y ≤ 200) :
    Calls Tryz.prog 5 #[.slice a1 l.length c1, .slice a2 late.length c2, v3, .int .i64 id] w fun e w' => e = .returned (.bool true) ∧ Below w.heap.size w w' := by
  obtain ⟨ax, ny, cz, rfl, h200⟩ := hlen3
  obtain ⟨i0, hi, hz0, hz1, hz2⟩ := info_parts infoPage
  obtain ⟨z, hz⟩ : ∃ z, z = Value.agg #[.int .i64 0, .int .i64 0, .int .i64 0, .string ⟨#[]⟩] := ⟨_, rfl⟩
  rw [← hz] at hz0
  have HZ : Hid (z.cells.size = 4) := by rw [hz]; exact rfl
  clear hz
  have HA := Lib.hid (fun w => alive_any8 w)
  have HP1 : Hid (∀ (i : Nat) (p : Pg), l[i]? = some p → ∃ B off, a1 = some ⟨B, off, none⟩ ∧ ∀ W, Below w.heap.size w W → W.cell? ⟨B, off + i * 4, none⟩ = some (.int .i64 p.k) ∧ W.cell? ⟨B, off + i * 4 + 1, none⟩ = some (.int .i64 p.id) ∧ W.cell? ⟨B, off + i * 4 + 2, none⟩ = some (.int .i64 p.tx) ∧ W.cell? ⟨B, off + i * 4 + 3, none⟩ = some (.string p.body)) := fun i p hp => by
    obtain ⟨B, off, c, e, hx⟩ := page_at h1 hp
    simp only [Value.slice.injEq, true_and] at e
    exact ⟨B, off, e.1, hx⟩
  have HP2 : Hid (∀ (i : Nat) (p : Pg), late[i]? = some p → ∃ B off, a2 = some ⟨B, off, none⟩ ∧ ∀ W, Below w.heap.size w W → W.cell? ⟨B, off + i * 4, none⟩ = some (.int .i64 p.k) ∧ W.cell? ⟨B, off + i * 4 + 1, none⟩ = some (.int .i64 p.id) ∧ W.cell? ⟨B, off + i * 4 + 2, none⟩ = some (.int .i64 p.tx) ∧ W.cell? ⟨B, off + i * 4 + 3, none⟩ = some (.string p.body)) := fun i p hp => by
    obtain ⟨B, off, c, e, hx⟩ := page_at h2 hp
    simp only [Value.slice.injEq, true_and] at e
    exact ⟨B, off, e.1, hx⟩
  have HI := Lib.hid h3
  clear h1 h2 h3
  go_enter Tryz.func5, Tryz.ntmps5
  go_wp2_with (go_at_call 6; (with_reducible refine (HA.out _).mono ?_); rintro e w1 ⟨rfl, hb⟩; have HB1 := Lib.hid hb; clear hb)
  go_loopw [9, 11] (fun vs vi wr => ∃ (i : Nat) (xs : List Pg), i ≤ l.length ∧ xs.length ≤ i ∧ vi = .int .i64 i ∧ Hid (SR okS w vs xs wr)) (fun _ vi _ => l.length - (RowKit.intOf vi).toNat)
  case atStart => exact ⟨0, [], Nat.zero_le _, Nat.le_refl _, rfl, SR.nil w _ HB1.out⟩
  case round =>
    clear HB1
    obtain ⟨i, xs, hi1, hxs, rfl, H⟩ := hrel
    by_cases hlt : i < l.length
    · obtain ⟨p, hp⟩ : ∃ p, l[i]? = some p := ⟨_, List.getElem?_eq_getElem hlt⟩
      obtain ⟨B, off, rfl, hx⟩ := HP1.out i p hp
      have HX := Lib.hid hx
      have HB := Lib.hid H.out.below
      obtain ⟨q0, q1, q2, q3⟩ := hx wr HB.out
      clear hx hp
      have HV : Hid (∀ W', Calls Tryz.prog 28 #[.agg #[.int .i64 p.k, .int .i64 p.id, .int .i64 p.tx, .string p.body]] W' fun e w' => e = .returned (.bool (decide p.ok)) ∧ Below W'.heap.size W' w') := fun W' => rValid_any W' p
      by_cases o1 : p.ok
      · rw [decide_eq_true o1] at HV
        by_cases o2 : p.k = 1
        · have k1 : (p.k == 1) = true := by simp [o2]
          clear o1 o2 HP1 HP2
          go_wp2_with (go_at_call 28; (with_reducible refine (HV.out _).mono ?_); rintro e w3 ⟨rfl, hb3⟩; have H3 := Lib.hid (H.out.over hb3); obtain ⟨s0, s1, s2, s3⟩ := HX.out w3 (thenBelow HB.out hb3); clear hb3)
          go_roundw
          case rel => exact ⟨i + 1, xs, by omega, by omega, by go_num, H3⟩
          case measure => simp [RowKit.intOf]; omega
        · have k1 : (p.k == 1) = false := beq_eq_false_iff_ne.2 o2
          by_cases o3 : p.id < 2
          · have k2 : decide (p.id < 2) = true := decide_eq_true o3
            clear o1 o2 o3 HP1 HP2
            go_wp2_with (go_at_call 28; (with_reducible refine (HV.out _).mono ?_); rintro e w3 ⟨rfl, hb3⟩; have H3 := Lib.hid (H.out.over hb3); obtain ⟨s0, s1, s2, s3⟩ := HX.out w3 (thenBelow HB.out hb3); clear hb3)
            go_roundw
            case rel => exact ⟨i + 1, xs, by omega, by omega, by go_num, H3⟩
            case measure => simp [RowKit.intOf]; omega
          · have k2 : decide (p.id < 2) = false := decide_eq_false o3
            by_cases o4 : 40 < p.id
            · have k3 : decide (40 < p.id) = true := decide_eq_true o4
              clear o1 o2 o3 o4 HP1 HP2
              go_wp2_with (go_at_call 28; (with_reducible refine (HV.out _).mono ?_); rintro e w3 ⟨rfl, hb3⟩; have H3 := Lib.hid (H.out.over hb3); obtain ⟨s0, s1, s2, s3⟩ := HX.out w3 (thenBelow HB.out hb3); clear hb3)
              go_roundw
              case rel => exact ⟨i + 1, xs, by omega, by omega, by go_num, H3⟩
              case measure => simp [RowKit.intOf]; omega
            · have k3 : decide (40 < p.id) = false := decide_eq_false o4
              have HO : Hid (okS p) := ⟨⟨o1, o2, by omega⟩, by omega⟩
              clear o1 o2 o3 o4 HP1 HP2
              go_wp2_with (first
                | (go_at_call 28; (with_reducible refine (HV.out _).mono ?_); rintro e w3 ⟨rfl, hb3⟩; have H3 := Lib.hid (H.out.over hb3); obtain ⟨s0, s1, s2, s3⟩ := HX.out w3 (thenBelow HB.out hb3); clear hb3)
                | (at_builtin; refine wpList_append_own _ rfl _ _ 39 rfl w.heap.size 47 i0 z 4 40 Tryz.underlying39 hi hz0 hz1 hz2 HZ.out (by decide) _ xs.length (cellsL xs) rfl (World.ownsRow.alloc (w := w3) H3.out.own _) ⟨w3.heap.size, 0, none⟩ 1 1 [.int .i64 p.k, .int .i64 p.id, .int .i64 p.tx, .string p.body] rfl rfl ?c1 ?c2 ?c3 ?c4 ?c5 ?_))
              case c1 => exact cells4_new w3 _ _ _ _ _
              case c2 => intro u hu; simp at hu; rcases hu with rfl | rfl | rfl | rfl <;> rfl
              case c3 => unfold maxLen; omega
              case c4 => omega
              case c5 => have := H3.out.below.size; simp; omega
              intro v' w4 hown' hgrow _
              have H4 := Lib.hid (H3.out.push HO.out hown' hgrow)
              clear hown' hgrow H3 H s0 s1 s2 s3 q0 q1 q2 q3
              go_wp2
              go_roundw
              case rel => exact ⟨i + 1, xs ++ [p], by omega, by simp; omega, by go_num, H4⟩
              case measure => simp [RowKit.intOf]; omega
      · rw [decide_eq_false o1] at HV
        clear o1 HP1 HP2
        go_wp2_with (go_at_call 28; (with_reducible refine (HV.out _).mono ?_); rintro e w3 ⟨rfl, hb3⟩; have H3 := Lib.hid (H.out.over hb3); obtain ⟨s0, s1, s2, s3⟩ := HX.out w3 (thenBelow HB.out hb3); clear hb3)
        go_roundw
        case rel => exact ⟨i + 1, xs, by omega, by omega, by go_num, H3⟩
        case measure => simp [RowKit.intOf]; omega
    · clear HP1
      have hx15 : xs.length ≤ 15 := by omega
      obtain ⟨wa, hwa⟩ : ∃ x, x = wr := ⟨_, rfl⟩
      subst hwa
      go_wp2
      go_loopw [10, 12] (fun vr vj wr => ∃ (j : Nat) (ys : List Pg), j ≤ late.length ∧ ys.length ≤ j ∧ vj = .int .i64 j ∧ Hid (SR okR wa vr ys wr)) (fun _ vj _ => late.length - (RowKit.intOf vj).toNat)
      case atStart => exact ⟨0, [], Nat.zero_le _, Nat.le_refl _, rfl, SR.nil wa _ (Below.refl _ _)⟩
      case round =>
        obtain ⟨j, ys, hj1, hys, rfl, H2⟩ := hrel
        by_cases hlt2 : j < late.length
        · obtain ⟨p, hp⟩ : ∃ p, late[j]? = some p := ⟨_, List.getElem?_eq_getElem hlt2⟩
          obtain ⟨B, off, rfl, hx⟩ := HP2.out j p hp
          obtain ⟨q0, q1, q2, q3⟩ := hx wr (thenBelow H.out.below H2.out.below)
          clear hx hp HP2
          have j14 : (j : Int) ≤ 14 := by omega
          have j0 : (0 : Int) ≤ (j : Int) := by omega
          have HV : Hid (∀ W', Calls Tryz.prog 28 #[.agg #[.int .i64 p.k, .int .i64 (41 + (j : Int)), .int .i64 p.tx, .string p.body]] W' fun e w' => e = .returned (.bool (decide (Pg.mk p.k (41 + (j : Int)) p.tx p.body).ok)) ∧ Below W'.heap.size W' w') := fun W' => rValid_any W' ⟨p.k, 41 + (j : Int), p.tx, p.body⟩
          have hn := P3.new_at wr #[.int .i64 p.k, .int .i64 (41 + (j : Int)), .int .i64 p.tx, .string p.body] 47
          have HN := Lib.hid hn
          have n0 : (wr.alloc (.cells #[.int .i64 p.k, .int .i64 (41 + (j : Int)), .int .i64 p.tx, .string p.body] 47)).cell? ⟨wr.heap.size, 0, none⟩ = some (.int .i64 p.k) := by rw [P3.cell_at hn]; rfl
          have n1 : (wr.alloc (.cells #[.int .i64 p.k, .int .i64 (41 + (j : Int)), .int .i64 p.tx, .string p.body] 47)).cell? ⟨wr.heap.size, 1, none⟩ = some (.int .i64 (41 + (j : Int))) := by rw [P3.cell_at hn]; rfl
          have n2 : (wr.alloc (.cells #[.int .i64 p.k, .int .i64 (41 + (j : Int)), .int .i64 p.tx, .string p.body] 47)).cell? ⟨wr.heap.size, 2, none⟩ = some (.int .i64 p.tx) := by rw [P3.cell_at hn]; rfl
          have n3 : (wr.alloc (.cells #[.int .i64 p.k, .int .i64 (41 + (j : Int)), .int .i64 p.tx, .string p.body] 47)).cell? ⟨wr.heap.size, 3, none⟩ = some (.string p.body) := by rw [P3.cell_at hn]; rfl
          clear hn
          by_cases o1 : (Pg.mk p.k (41 + (j : Int)) p.tx p.body).ok
          · rw [decide_eq_true o1] at HV
            by_cases o2 : p.k = 1
            · have k1 : (p.k != 1) = false := by simp [o2]
              clear o1 o2
              go_wp2_with (go_at_call 28; (with_reducible refine (HV.out _).mono ?_); rintro e w3 ⟨rfl, hb3⟩; have HN3 := Lib.hid (P3.old_below HN.out hb3); have H3 := Lib.hid ((H2.out.over (P3.below_new wr _)).over hb3); have s0 : w3.cell? ⟨wr.heap.size, 0, none⟩ = some (.int .i64 p.k) := (by rw [P3.cell_at HN3.out]; rfl); have s1 : w3.cell? ⟨wr.heap.size, 1, none⟩ = some (.int .i64 (41 + (j : Int))) := (by rw [P3.cell_at HN3.out]; rfl); have s2 : w3.cell? ⟨wr.heap.size, 2, none⟩ = some (.int .i64 p.tx) := (by rw [P3.cell_at HN3.out]; rfl); have s3 : w3.cell? ⟨wr.heap.size, 3, none⟩ = some (.string p.body) := (by rw [P3.cell_at HN3.out]; rfl); clear hb3)
              go_roundw
              case rel => exact ⟨j + 1, ys, by omega, by omega, by go_num, H3⟩
              case measure => simp [RowKit.intOf]; omega
            · have k1 : (p.k != 1) = true := by simp [o2]
              have HO : Hid (okR ⟨p.k, 41 + (j : Int), p.tx, p.body⟩) := ⟨⟨o1, o2, by show (2 : Int) ≤ 41 + (j : Int); omega⟩, by show (41 : Int) ≤ 41 + (j : Int); omega, by show 41 + (j : Int) ≤ 55; omega⟩
              clear o1 o2
              go_wp2_with (first
                | (go_at_call 28; (with_reducible refine (HV.out _).mono ?_); rintro e w3 ⟨rfl, hb3⟩; have HN3 := Lib.hid (P3.old_below HN.out hb3); have H3 := Lib.hid ((H2.out.over (P3.below_new wr _)).over hb3); have s0 : w3.cell? ⟨wr.heap.size, 0, none⟩ = some (.int .i64 p.k) := (by rw [P3.cell_at HN3.out]; rfl); have s1 : w3.cell? ⟨wr.heap.size, 1, none⟩ = some (.int .i64 (41 + (j : Int))) := (by rw [P3.cell_at HN3.out]; rfl); have s2 : w3.cell? ⟨wr.heap.size, 2, none⟩ = some (.int .i64 p.tx) := (by rw [P3.cell_at HN3.out]; rfl); have s3 : w3.cell? ⟨wr.heap.size, 3, none⟩ = some (.string p.body) := (by rw [P3.cell_at HN3.out]; rfl); clear hb3)
                | (at_builtin; refine wpList_append_own _ rfl _ _ 39 rfl wa.heap.size 47 i0 z 4 40 Tryz.underlying39 hi hz0 hz1 hz2 HZ.out (by decide) _ ys.length (cellsL ys) rfl (World.ownsRow.alloc (w := w3) H3.out.own _) ⟨w3.heap.size, 0, none⟩ 1 1 [.int .i64 p.k, .int .i64 (41 + (j : Int)), .int .i64 p.tx, .string p.body] rfl rfl ?c1 ?c2 ?c3 ?c4 ?c5 ?_))
              case c1 => exact cells4_new w3 _ _ _ _ _
              case c2 => intro u hu; simp at hu; rcases hu with rfl | rfl | rfl | rfl <;> rfl
              case c3 => unfold maxLen; omega
              case c4 => omega
              case c5 => have := H3.out.below.size; simp; omega
              intro v' w4 hown' hgrow _
              have H4 := Lib.hid (H3.out.push HO.out hown' hgrow)
              clear hown' hgrow H3 H2 s0 s1 s2 s3 q0 q1 q2 q3 n0 n1 n2 n3 HN HN3
              go_wp2
              go_roundw
              case rel => exact ⟨j + 1, ys ++ [⟨p.k, 41 + (j : Int), p.tx, p.body⟩], by omega, by simp; omega, by go_num, H4⟩
              case measure => simp [RowKit.intOf]; omega
          · rw [decide_eq_false o1] at HV
            clear o1
            go_wp2_with (go_at_call 28; (with_reducible refine (HV.out _).mono ?_); rintro e w3 ⟨rfl, hb3⟩; have HN3 := Lib.hid (P3.old_below HN.out hb3); have H3 := Lib.hid ((H2.out.over (P3.below_new wr _)).over hb3); have s0 : w3.cell? ⟨wr.heap.size, 0, none⟩ = some (.int .i64 p.k) := (by rw [P3.cell_at HN3.out]; rfl); have s1 : w3.cell? ⟨wr.heap.size, 1, none⟩ = some (.int .i64 (41 + (j : Int))) := (by rw [P3.cell_at HN3.out]; rfl); have s2 : w3.cell? ⟨wr.heap.size, 2, none⟩ = some (.int .i64 p.tx) := (by rw [P3.cell_at HN3.out]; rfl); have s3 : w3.cell? ⟨wr.heap.size, 3, none⟩ = some (.string p.body) := (by rw [P3.cell_at HN3.out]; rfl); clear hb3)
            go_roundw
            case rel => exact ⟨j + 1, ys, by omega, by omega, by go_num, H3⟩
            case measure => simp [RowKit.intOf]; omega
        · clear HP2
          have hy15 : ys.length ≤ 15 := by omega
          obtain ⟨wt, hwt⟩ : ∃ x, x = wr := ⟨_, rfl⟩
          subst hwt
          have hkl := keeps_lists H.out H2.out HI.out hx15 hy15
          obtain ⟨a9, c9, rfl, _⟩ := hkl.p1
          have HKL := Lib.hid hkl
          have HPX : Hid (∀ (i : Nat) (p : Pg), xs[i]? = some p → ∃ B off, a9 = some ⟨B, off, none⟩ ∧ ∀ W, Below wt.heap.size wt W → W.cell? ⟨B, off + i * 4, none⟩ = some (.int .i64 p.k) ∧ W.cell? ⟨B, off + i * 4 + 1, none⟩ = some (.int .i64 p.id) ∧ W.cell? ⟨B, off + i * 4 + 2, none⟩ = some (.int .i64 p.tx) ∧ W.cell? ⟨B, off + i * 4 + 3, none⟩ = some (.string p.body)) := fun i p hp => by
            obtain ⟨B, off, c, e, hx⟩ := page_at hkl.p1 hp
            simp only [Value.slice.injEq, true_and] at e
            exact ⟨B, off, e.1, hx⟩
          have HBW := Lib.hid (thenBelow H.out.below H2.out.below)
          have HN := Lib.hid (fun w => qd_new w)
          have HO1 : Hid (∀ W d, QD true wt W d 0 [] → Calls Tryz.prog 8 #[.pointer (some ⟨d, 0, none⟩), .string ⟨#[97]⟩] W fun e w' => ∃ b, e = .returned (.tuple #[.pointer (some ⟨b, 0, none⟩), .int .i64 0]) ∧ QS true wt w' b d 0 nA 0 []) := fun W d h => QS.open h _ (by decide) (by decide)
          have HO2 : Hid (∀ W d t o, QD true wt W d t (ofF [97] o) → Calls Tryz.prog 8 #[.pointer (some ⟨d, 0, none⟩), .string ⟨#[97]⟩] W fun e w' => ∃ b, e = .returned (.tuple #[.pointer (some ⟨b, 0, none⟩), .int .i64 0]) ∧ KW wt w' b xs o) := fun W d t o h => (QS.open h _ (by decide) (by decide)).mono fun e w' ⟨b, h1, h2⟩ => ⟨b, h1, _, _, _, h2⟩
          clear hkl H H2 HI
          go_wp2_with (first
            | (go_at_call 7; (with_reducible refine (HN.out _).mono ?_); rintro e w3 ⟨rfl, hq⟩; have HQ1 := Lib.hid hq; clear hq)
            | (go_at_call 8; (with_reducible refine (HO1.out _ _ HQ1.out).mono ?_); rintro e w4 ⟨b, rfl, hq⟩; have HQ2 := Lib.hid hq; clear hq)
            | (go_at_call 9; (with_reducible refine (kp_put1 HKL.out HQ2.out).mono ?_); rintro e w5 ⟨rfl, hq⟩; have HQ3 := Lib.hid hq; clear hq)
            | (go_at_call 14; (with_reducible refine (kp_sync HQ3.out).mono ?_); rintro e w6 ⟨rfl, hq⟩; have HQ4 := Lib.hid hq; clear hq)
            | (go_at_call 9; (with_reducible refine (kp_put2 HKL.out HQ4.out).mono ?_); rintro e w7 ⟨rfl, t7, hq⟩; have HQ5 := Lib.hid hq; clear hq)
            | (go_at_call 25; (with_reducible refine (kp_crash HKL.out HQ5.out).mono ?_); rintro e w8 ⟨z8, o, rfl, hk, hq⟩; have HK := Lib.hid hk; have HQ6 := Lib.hid hq; clear hk hq)
            | (go_at_call 29; (with_reducible refine (HQ6.out.restore).mono ?_); rintro e w9 ⟨rfl, hq⟩; have HQ7 := Lib.hid hq; clear hq)
            | (go_at_call 8; (with_reducible refine (HO2.out _ _ _ _ HQ7.out).mono ?_); rintro e w10 ⟨b2, rfl, hq⟩; have HQ8 := Lib.hid hq; clear hq))
          clear HN HO1 HO2 HKL HQ1 HQ2 HQ3 HQ4 HQ5 HQ6 HQ7
          go_loopw [19] (fun vi wr => ∃ i : Nat, i ≤ xs.length ∧ vi = .int .i64 i ∧ Hid (KW wt wr b2 xs o)) (fun vi _ => xs.length - (RowKit.intOf vi).toNat)
          case atStart => exact ⟨0, Nat.zero_le _, rfl, HQ8⟩
          case round =>
            clear HQ8
            obtain ⟨i, hi3, rfl, H⟩ := hrel
            by_cases hlt3 : i < xs.length
            · obtain ⟨p, hp⟩ : ∃ p, xs[i]? = some p := ⟨_, List.getElem?_eq_getElem hlt3⟩
              obtain ⟨B, off, rfl, hx⟩ := HPX.out i p hp
              have HX := Lib.hid hx
              have HP := Lib.hid hp
              have HPY : Hid (∀ (k : Nat) (q : Pg), xs[k]? = some q → ∀ W, Below wt.heap.size wt W → W.cell? ⟨B, off + k * 4 + 1, none⟩ = some (.int .i64 q.id)) := fun k q hq W hb => by
                obtain ⟨B', off', e, hx'⟩ := HPX.out k q hq
                simp only [Option.some.injEq, Addr.mk.injEq, and_true] at e
                obtain ⟨rfl, rfl⟩ := e
                exact (hx' W hb).2.1
              clear hx hp HPX
              have i0' : (0 : Int) ≤ (i : Int) := by omega
              have i15 : (i : Int) ≤ 15 := by omega
              go_wp2
              go_loopw [20, 21] (fun vB vk wr => ∃ (k : Nat) (F : Bool), i < k ∧ k ≤ xs.length ∧ vB = .bool F ∧ vk = .int .i64 k ∧ Hid (F = true ↔ ∀ (j : Nat) (q : Pg), i < j → j < k → xs[j]? = some q → q.id ≠ p.id) ∧ Hid (KW wt wr b2 xs o)) (fun _ vk _ => xs.length - (RowKit.intOf vk).toNat)
              case atStart => exact ⟨i + 1, true, by omega, by omega, rfl, by go_num, ⟨fun _ j q h1 h2 => by omega, fun _ => rfl⟩, H⟩
              case round =>
                clear H
                obtain ⟨k, F, hik, hk4, rfl, rfl, HF, H⟩ := hrel
                by_cases hlt4 : k < xs.length
                · obtain ⟨q, hq⟩ : ∃ q, xs[k]? = some q := ⟨_, List.getElem?_eq_getElem hlt4⟩
                  have cp := (HX.out wr H.out.fr).2.1
                  have cq := HPY.out k q hq wr H.out.fr
                  have HQ := Lib.hid hq
                  have k0' : (0 : Int) ≤ (k : Int) := by omega
                  have k15 : (k : Int) ≤ 15 := by omega
                  have t1 : (k : Int) < (xs.length : Int) := by omega
                  have t2 : (i : Int) < (xs.length : Int) := by omega
                  have HDn : Hid (∀ n, KW wt (wr.drewN n) b2 xs o) := fun n => H.out.below (P3.below_drewN _ n)
                  clear hq
                  cases F with
                  | true =>
                    by_cases e : q.id = p.id
                    · have ee : (q.id != p.id) = false := by simp [e]
                      have HF2 : Hid (false = true ↔ ∀ (j : Nat) (q : Pg), i < j → j < k + 1 → xs[j]? = some q → q.id ≠ p.id) := ⟨fun h => Bool.noConfusion h, fun h => absurd e (h k q hik (by omega) HQ.out)⟩
                      clear e
                      go_wp2
                      go_quiet (fail)
                      go_wp2
                      go_roundw
                      case rel => exact ⟨k + 1, false, by omega, by omega, rfl, by go_num, HF2, HDn.out _⟩
                      case measure => simp [RowKit.intOf]; omega
                    · have ee : (q.id != p.id) = true := by simp [e]
                      have HF2 : Hid (∀ (j : Nat) (q : Pg), i < j → j < k + 1 → xs[j]? = some q → q.id ≠ p.id) := fun j q' h1 h2 hq' => by
                        by_cases ej : j = k
                        · subst ej
                          rw [HQ.out] at hq'
                          obtain rfl : q = q' := by simpa using hq'
                          exact e
                        · exact HF.out.1 rfl j q' h1 (by omega) hq'
                      clear e
                      go_wp2
                      go_quiet (fail)
                      go_wp2
                      go_roundw
                      case rel => exact ⟨k + 1, true, by omega, by omega, rfl, by go_num, ⟨fun _ => HF2.out, fun _ => rfl⟩, HDn.out _⟩
                      case measure => simp [RowKit.intOf]; omega
                  | false =>
                    have HF2 : Hid (false = true ↔ ∀ (j : Nat) (q : Pg), i < j → j < k + 1 → xs[j]? = some q → q.id ≠ p.id) := ⟨fun h => Bool.noConfusion h, fun h => absurd (HF.out.2 fun j q h1 h2 h3 => h j q h1 (by omega) h3) (by decide)⟩
                    go_wp2
                    go_quiet (fail)
                    go_wp2
                    go_roundw
                    case rel => exact ⟨k + 1, false, by omega, by omega, rfl, by go_num, HF2, HDn.out _⟩
                    case measure => simp [RowKit.intOf]; omega
                · obtain rfl : k = xs.length := by omega
                  obtain ⟨q0, q1, q2, q3⟩ := HX.out wr H.out.fr
                  have t2 : (i : Int) < (xs.length : Int) := by omega
                  cases F with
                  | true =>
                    have HG : Hid (Calls Tryz.prog 17 #[.pointer (some ⟨b2, 0, none⟩), .int .i64 p.id] wr fun e w' => e = .returned (.tuple #[.agg #[.int .i64 p.k, .int .i64 p.id, .int .i64 p.tx, .string p.body], .int .i64 0]) ∧ KW wt w' b2 xs o) := keeps_last HK.out HP.out (fun j q h1 h2 => HF.out.1 rfl j q h1 (List.getElem?_eq_some_iff.1 h2).1 h2) H.out
                    have HE : ∀ w, (binOp .neq 47 (.agg #[.int .i64 p.k, .int .i64 p.id, .int .i64 p.tx, .string p.body]) (.agg #[.int .i64 p.k, .int .i64 p.id, .int .i64 p.tx, .string p.body])).run Tryz.prog w = .ok (.bool false) w := fun w => by
                      have := P6.page_neq w p p
                      rw [P5.Pg.same_self] at this
                      exact this
                    clear HF hk4 hik hlt4
                    go_upto_region 36 with (go_at_call 17; (with_reducible refine (HG.out).mono ?_); rintro e w11 ⟨rfl, hq⟩; have hb := P3.below_new w11 (.cells #[.int .i64 p.k, .int .i64 p.id, .int .i64 p.tx, .string p.body] 47); have H6 := Lib.hid (hq.below hb); obtain ⟨s0, s1, s2, s3⟩ := HX.out _ (thenBelow hq.fr hb); have hn := P3.new_at w11 #[.int .i64 p.k, .int .i64 p.id, .int .i64 p.tx, .string p.body] 47; obtain ⟨d0, d1, d2, d3⟩ := P6.cells4 hn; have HDn : Hid (∀ n, KW wt ((w11.alloc (.cells #[.int .i64 p.k, .int .i64 p.id, .int .i64 p.tx, .string p.body] 47)).drewN n) b2 xs o) := fun n => H6.out.below (P3.below_drewN _ n); clear hq hb hn)
                    go_quiet (fail)
                    go_wp2
                    go_roundw
                    case rel => exact ⟨i + 1, by omega, by go_num, HDn.out _⟩
                    case measure => simp [RowKit.intOf]; omega
                  | false =>
                    have HG : Hid (Calls Tryz.prog 17 #[.pointer (some ⟨b2, 0, none⟩), .int .i64 p.id] wr fun e w' => ∃ (P : Pg) (E : Int), e = .returned (.tuple #[.agg #[.int .i64 P.k, .int .i64 P.id, .int .i64 P.tx, .string P.body], .int .i64 E]) ∧ KW wt w' b2 xs o) := (H.out.get p.id).mono fun e w' ⟨h1, h2⟩ => ⟨_, _, h1, h2⟩
                    clear HF hk4 hik hlt4
                    go_upto_region 36 with (go_at_call 17; (with_reducible refine (HG.out).mono ?_); rintro e w11 ⟨P, E, rfl, hq⟩; have hb := P3.below_new w11 (.cells #[.int .i64 P.k, .int .i64 P.id, .int .i64 P.tx, .string P.body] 47); have H6 := Lib.hid (hq.below hb); have HDn : Hid (∀ n, KW wt ((w11.alloc (.cells #[.int .i64 P.k, .int .i64 P.id, .int .i64 P.tx, .string P.body] 47)).drewN n) b2 xs o) := fun n => H6.out.below (P3.below_drewN _ n); clear hq hb)
                    go_quiet (fail)
                    go_wp2
                    go_roundw
                    case rel => exact ⟨i + 1, by omega, by go_num, HDn.out _⟩
                    case measure => simp [RowKit.intOf]; omega
            · have HG : Hid (Calls Tryz.prog 17 #[.pointer (some ⟨b2, 0, none⟩), .int .i64 id] wr fun e w' => ∃ (P : Pg) (E : Int), e = .returned (.tuple #[.agg #[.int .i64 P.k, .int .i64 P.id, .int .i64 P.tx, .string P.body], .int .i64 E]) ∧ (id < 41 → (∀ p ∈ xs, p.id ≠ id) → E ≠ 0) ∧ KW wt w' b2 xs o) := (H.out.get id).mono fun e w' ⟨h1, h2⟩ => ⟨_, _, h1, HK.out.none_ [97] id, h2⟩
              clear H
              go_wp2_with (go_at_call 17; (with_reducible refine (HG.out).mono ?_); rintro e w11 ⟨P, E, rfl, he, hq⟩; have HEr := Lib.hid he; have H6 := Lib.hid (hq.below (P3.below_new w11 (.cells #[.int .i64 P.k, .int .i64 P.id, .int .i64 P.tx, .string P.body] 47))); clear hq he)
              clear hlt3 hi3
              go_loopw [26, 27] (fun vB vk wr => ∃ (k : Nat) (F : Bool), k ≤ xs.length ∧ vB = .bool F ∧ vk = .int .i64 k ∧ Hid (F = false → ∀ (j : Nat) (q : Pg), j < k → xs[j]? = some q → q.id ≠ id) ∧ Hid (KW wt wr b2 xs o)) (fun _ vk _ => xs.length - (RowKit.intOf vk).toNat)
              case atStart => exact ⟨0, false, Nat.zero_le _, rfl, rfl, fun _ j q h => absurd h (Nat.not_lt_zero _), H6⟩
              case round =>
                clear H6
                obtain ⟨k, F, hk4, rfl, rfl, HF, H⟩ := hrel
                by_cases hlt4 : k < xs.length
                · obtain ⟨q, hq⟩ : ∃ q, xs[k]? = some q := ⟨_, List.getElem?_eq_getElem hlt4⟩
                  obtain ⟨B, off, rfl, hx⟩ := HPX.out k q hq
                  have cq := (hx wr H.out.fr).2.1
                  have HQ := Lib.hid hq
                  clear hq hx
                  cases F with
                  | true =>
                    go_wp2
                    go_roundw
                    case rel => exact ⟨k + 1, true, by omega, rfl, by go_num, fun h => Bool.noConfusion h, H⟩
                    case measure => simp [RowKit.intOf]; omega
                  | false =>
                    by_cases e : q.id = id
                    · have ee : (q.id == id) = true := by simp [e]
                      clear e
                      go_wp2
                      go_roundw
                      case rel => exact ⟨k + 1, true, by omega, rfl, by go_num, fun h => Bool.noConfusion h, H⟩
                      case measure => simp [RowKit.intOf]; omega
                    · have ee : (q.id == id) = false := by simp [e]
                      have HF2 : Hid (false = false → ∀ (j : Nat) (q : Pg), j < k + 1 → xs[j]? = some q → q.id ≠ id) := fun _ j q' h2 hq' => by
                        by_cases ej : j = k
                        · subst ej
                          rw [HQ.out] at hq'
                          obtain rfl : q = q' := by simpa using hq'
                          exact e
                        · exact HF.out rfl j q' (by omega) hq'
                      clear e
                      go_wp2
                      go_roundw
                      case rel => exact ⟨k + 1, false, by omega, rfl, by go_num, HF2, H⟩
                      case measure => simp [RowKit.intOf]; omega
                · have HEnd := Lib.hid (thenBelow HBW.out H.out.fr)
                  cases F with
                  | true =>
                    go_wp2
                    go_ret
                    exact ⟨rfl, HEnd.out⟩
                  | false =>
                    by_cases e1 : 41 ≤ id
                    · have ee : decide (41 ≤ id) = true := decide_eq_true e1
                      go_wp2
                      go_ret
                      exact ⟨rfl, HEnd.out⟩
                    · have ee : decide (41 ≤ id) = false := decide_eq_false e1
                      have e2 : E ≠ 0 := HEr.out (by omega) (fun p hp => by
                        obtain ⟨j, hj, he⟩ := List.mem_iff_getElem.1 hp
                        exact HF.out rfl j p (by omega) (by rw [List.getElem?_eq_getElem hj, he]))
                      have e3 : (E != 0) = true := by simp [e2]
                      clear e1 e2
                      go_wp2
                      go_ret
                      exact ⟨rfl, HEnd.out⟩
set_option maxRecDepth 100000 in
theorem keeps_long (w : World) (a1 a2 a3 : Option Addr) (n1 n2 n3 c1 c2 c3 : Nat) (id : Int) (h : 15 < n1 ∨ 15 < n2 ∨ 200 < n3) :
    Calls Tryz.prog 5 #[.slice a1 n1 c1, .slice a2 n2 c2, .slice a3 n3 c3, .int .i64 id] w fun e w' => e = .returned (.bool true) ∧ Below w.heap.size w w' := by
  have HA := Lib.hid (fun w => alive_any8 w)
  by_cases h1 : 15 < n1
  · have k1 : decide ((15 : Int) < (n1 : Int)) = true := decide_eq_true (by omega)
    clear h
    go_enter Tryz.func5, Tryz.ntmps5
    go_wp2_with (go_at_call 6; (with_reducible refine (HA.out _).mono ?_); rintro e w1 ⟨rfl, hb⟩; have HC := Lib.hid hb; clear hb)
    go_ret
    exact ⟨rfl, HC.out⟩
  · have k1 : decide ((15 : Int) < (n1 : Int)) = false := decide_eq_false (by omega)
    by_cases h2 : 15 < n2
    · have k2 : decide ((15 : Int) < (n2 : Int)) = true := decide_eq_true (by omega)
      clear h
      go_enter Tryz.func5, Tryz.ntmps5
      go_wp2_with (go_at_call 6; (with_reducible refine (HA.out _).mono ?_); rintro e w1 ⟨rfl, hb⟩; have HC := Lib.hid hb; clear hb)
      go_ret
      exact ⟨rfl, HC.out⟩
    · have k2 : decide ((15 : Int) < (n2 : Int)) = false := decide_eq_false (by omega)
      have h3 : 200 < n3 := by omega
      have k3 : decide ((200 : Int) < (n3 : Int)) = true := decide_eq_true (by omega)
      clear h
      go_enter Tryz.func5, Tryz.ntmps5
      go_wp2_with (go_at_call 6; (with_reducible refine (HA.out _).mono ?_); rintro e w1 ⟨rfl, hb⟩; have HC := Lib.hid hb; clear hb)
      go_ret
      exact ⟨rfl, HC.out⟩
theorem keeps_any (w : World) (v1 : Value) (l : List Pg) (h1 : PagesIn w v1 l) (v2 : Value) (late : List Pg) (h2 : PagesIn w v2 late) (v3 : Value) (ks : List Int) (h3 : IntsIn w v3 ks) (id : Int) :
    Calls Tryz.prog 5 #[v1, v2, v3, .int .i64 id] w fun e w' => e = .returned (.bool true) ∧ Below w.heap.size w w' := by
  have k1 := h1
  have k2 := h2
  have k3 := h3
  obtain ⟨a1, c1, rfl, _⟩ := k1
  obtain ⟨a2, c2, rfl, _⟩ := k2
  obtain ⟨a3, c3, rfl, _⟩ := k3
  by_cases h : 15 < l.length ∨ 15 < late.length ∨ 200 < ks.length
  · exact keeps_long w a1 a2 a3 _ _ _ c1 c2 c3 id h
  · exact keeps_main w l late ks a1 a2 c1 c2 _ id h1 h2 h3 (by omega) (by omega) ⟨a3, ks.length, c3, rfl, by omega⟩
end Go.Proofs.YtbkngnjkaledlaaGreat.P8
