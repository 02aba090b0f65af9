/-
  P701, P702: every list, and every call, in every order: the walk of the statement FreePlays.
-/
import Derived.Test.YtoiaamijjcjjiaaG19
import Derived.Deep.CutBlock
namespace Go.Proofs.Ytoiaamijjcjjiaa.P7
open Go Go.RowKit Go.Lib Go.Proofs.Ytoiaamijjcjjiaa.PK

set_option maxRecDepth 100000 in
set_option maxHeartbeats 8000000 in
theorem plays7_walk (w : World) (p : Int) (v1 : Value) (L : List Int) (hL : IL w v1 L) (v2 : Value) (l : List OpI) (hl : OpsIn w v2 l) (tx : Int) :
    Calls Try.prog 3 #[.int .i64 p, v1, v2, .int .i64 tx] w fun e w' => e = .returned (.bool true) ∧ Below w.heap.size w w' := by
  have HA := Lib.hid (fun w => alive_any w)
  have HLi := Lib.hid (light7_any w v2 l hl)
  have HI := Lib.hid hL
  have HO := Lib.hid hl
  obtain ⟨a1, c1, rfl, -, hs1, -⟩ := id hL
  obtain ⟨a2, c2, rfl, hs2, -⟩ := id hl
  clear hL hl
  go_enter Try.func3, Try.ntmps3
  go_upto_region 1 with fail
  go_cut [39] from 28 to 39 (fun v W => ∃ b, v = .bool b ∧ Hid (b = false → L.length ≤ 200 ∧ Light7Ok l) ∧ Hid (Below w.heap.size w W))
  case first =>
    by_cases hn : L.length ≤ 200
    · have kn : decide (200 < L.length) = false := decide_eq_false (by omega)
      have kn' : decide ((200 : Int) < (L.length : Int)) = false := decide_eq_false (by omega)
      have HN := Lib.hid hn
      clear hn
      go_wp2_with (first
        | (go_at_call 6; (with_reducible refine HLi.out.mono ?_); rintro e w2 ⟨⟨b1, rfl, h1⟩, rfl⟩; have H1 := Lib.hid h1; clear h1)
        | (go_at_call 7; (with_reducible refine (HA.out _).mono ?_); rintro e w4 ⟨rfl, hB⟩; have HB := Lib.hid hB; clear hB))
      all_goals
        go_meet
        first
          | exact ⟨true, rfl, Lib.hid (fun h => by cases h), HB⟩
          | exact ⟨true, rfl, Lib.hid (fun h => by cases h), Lib.hid (Below.refl _ _)⟩
          | exact ⟨false, rfl, Lib.hid (fun _ => ⟨HN.out, H1.out (by assumption)⟩), HB⟩
          | exact ⟨false, rfl, Lib.hid (fun _ => ⟨HN.out, H1.out rfl⟩), HB⟩
    · have kn : decide (200 < L.length) = true := decide_eq_true (by omega)
      have kn' : decide ((200 : Int) < (L.length : Int)) = true := decide_eq_true (by omega)
      clear hn
      go_wp2
      all_goals
        go_meet
        exact ⟨true, rfl, Lib.hid (fun h => by cases h), Lib.hid (Below.refl _ _)⟩
  case rest =>
    obtain ⟨b, rfl, hOk, hB⟩ := hcut
    cases b with
    | true =>
      go_wp2_with (go_at_call 7; (with_reducible refine (HA.out _).mono ?_); rintro e w1 ⟨rfl, hb⟩; have HBe := Lib.hid (thenBelow hB.out hb); clear hb)
      go_ret
      exact ⟨rfl, HBe.out⟩
    | false =>
      obtain ⟨hL200, hlo⟩ := hOk.out rfl
      have hlen := hlo.1
      have HLo := Lib.hid hlo.2
      clear HLi hOk hlo HA
      obtain ⟨i0, hi, hz0, hz1, hz2⟩ := info_parts infoI7
      obtain ⟨d, hd⟩ : ∃ d : Bool, d = true ↔ Rises p L := by
        by_cases q : Rises p L
        · exact ⟨true, fun _ => q, fun _ => rfl⟩
        · exact ⟨false, fun h => (by cases h), fun h => absurd h q⟩
      have HD := Lib.hid hd
      have HRi := Lib.hid (fun W (hW : Below w.heap.size w W) => rises_any W p _ L (HI.out.below hW) d hd)
      clear hd
      go_upto_if 61 with (first
        | (go_at_call 8; (with_reducible refine (lent_ _ _ L (HI.out.below hB.out) (by omega)).mono ?_); rintro e w2 ⟨g, q, rfl, h1, h2⟩; have HLe := Lib.hid h1; have HB2 := Lib.hid (thenBelow hB.out h2); have HIl := Lib.hid h1.il; clear h1 h2)
        | (go_at_call 9; (with_reducible refine (load_l _ HIl.out HD.out).mono ?_); rintro e w3 ⟨A, y, rfl, h⟩; have HQ := Lib.hid h; have HB3 := Lib.hid (thenBelow HB2.out h.2.2); have HLe3 := Lib.hid (HLe.out.below h.2.2); clear h)
        | (go_at_call 10; (with_reducible refine (stays_ _ _ _ L HLe3.out (HI.out.below HB3.out)).mono ?_); rintro e w4 ⟨rfl, hb⟩; have HQ4 := Lib.hid (HQ.out.over hb); have HB4 := Lib.hid (thenBelow HB3.out hb); have HIL4 := Lib.hid (IL.at_ (HI.out.below HB4.out)); clear hb)
        | (at_builtin; refine wpList_app rfl _ _ 22 rfl w4.heap.size 3 i0 (.int .i64 0) 1 8 Try.underlying22 hi hz0 hz1 hz2 rfl (by decide) (.slice none 0 0) 0 [] rfl (World.ownsRow_nil _ _ _ _) a1 L.length c1 (L.map (Value.int .i64)) rfl (by simp) HIL4.out.1 HIL4.out.2 (ints_one L) (by unfold maxLen; omega) (by omega) (Nat.le_refl _) ?_; intro p5 q5 w5 hown hgrow hat; simp only [Nat.zero_add, List.nil_append] at hown ⊢; have HRow := Lib.hid (show (iRow (.slice p5 L.length q5) L).At w5 w4.heap.size from iRow_owns.2 hown); have HB5 : Hid (Below w4.heap.size w4 w5) := (Below.refl _ _).grown hgrow (Nat.le_refl _) (fun g hg => by cases hg); have HB6 := Lib.hid (fun o => grow (thenBelow HB4.out HB5.out) o); clear hown hgrow hat)
        | (go_at_call 11; (with_reducible refine (HRi.out _ (HB6.out _)).mono ?_); rintro e w6 ⟨rfl, hb⟩; have HB66 := Lib.hid hb; have HB7 := Lib.hid (thenBelow (HB6.out _) hb); clear hb))
      go_cut [10, 12] from 62 to 76 (fun x g W => ∃ (r rr : Nat), x = .pointer (some ⟨r, 0, none⟩) ∧ g = .pointer (some ⟨rr, 0, none⟩) ∧ Hid (St0 w W r rr))
      case first =>
        cases d with
        | true =>
          obtain ⟨r, rfl, rfl, hq⟩ := HQ4.out.1 rfl
          have HSt : Hid (St0 w w6 r w5.heap.size) := ⟨w2, _, HB2.out, PS.over (ss_start hq HB5.out HRow.out) HB66.out⟩
          clear hq
          go_wp2
          all_goals
            go_meet
            exact ⟨r, w5.heap.size, rfl, rfl, HSt⟩
        | false =>
          obtain ⟨rfl, rfl⟩ := HQ4.out.2.1 rfl
          go_wp2_with (go_at_call 12; (with_reducible refine (new_q _ p).mono ?_); rintro e w7 ⟨r, rfl, h⟩; have HSt : Hid (St0 w (w7.alloc (.cells #[.int .i64 (min (max p 2) 4000), .slice none 0 0, .slice none 0 0] 35)) r w7.heap.size) := ⟨w6, _, HB7.out, ss_start (show QF w6 [] r (h0 (min (max p 2) 4000) []) w7 from h) (Below.refl _ _) (v' := .slice none 0 0) (World.ownsRow_nil _ _ _ _)⟩; clear h)
          all_goals
            go_meet
            exact ⟨r, w7.heap.size, rfl, rfl, HSt⟩
      case rest =>
        obtain ⟨r0, rr, rfl, rfl, HSt0⟩ := hcut
        have HSt : Hid (St w (wc.alloc (.cells book0.toArray 49)) r0 rr wc.heap.size) := by
          obtain ⟨aw, G, h1, h2⟩ := HSt0.out
          exact st_of h1 h2
        obtain ⟨bb, hbb⟩ : ∃ bb, bb = wc.heap.size := ⟨_, rfl⟩
        clear HQ HLe HLe3 HQ4 HIL4 HRow HB5 HB66 HB7 HRi HD HIl HB2 HB3 HB4 HB6
        obtain ⟨aw, G0, BC0, hba, hss, hbk⟩ := HSt.out
        have HBA := Lib.hid hba
        have HOa := Lib.hid (HO.out.below hba)
        have HS0 := Lib.hid hss
        have HK0 := Lib.hid hbk
        clear hba hss hbk HSt HSt0 HI HO hB hi hz0 hz1 hz2
        go_wp2
        rw [← hbb] at HK0 ⊢
        clear hbb
        go_loopw [10, 14] (fun vx vi wr => ∃ r i : Nat, i ≤ l.length ∧ vx = .pointer (some ⟨r, 0, none⟩) ∧ vi = .int .i64 i ∧ Hid (∃ G BC, SS aw wr r rr G BC ∧ BkC bb (3 * i) [] BC)) (fun _ vi _ => l.length - (RowKit.intOf vi).toNat)
        case atStart => exact ⟨r0, 0, Nat.zero_le _, rfl, rfl, ⟨G0, BC0, HS0.out, HK0.out⟩⟩
        case round =>
          clear HS0 HK0
          obtain ⟨r, i, hi, rfl, rfl, HR⟩ := hrel
          obtain ⟨G, BC, hss, hbk⟩ := HR.out
          have HS := Lib.hid hss
          have HK := Lib.hid hbk
          have HG := Lib.hid hss.fine
          have hbw := hss.below
          clear hss hbk HR
          by_cases hil : i < l.length
          · obtain ⟨o, ho⟩ : ∃ o, l[i]? = some o := ⟨_, List.getElem?_eq_getElem hil⟩
            obtain ⟨a3, c3, e3, _, hcc⟩ := HOa.out
            simp only [Value.slice.injEq, true_and] at e3
            obtain ⟨rfl, rfl⟩ := e3
            obtain ⟨b, off, rfl, hbl, hcc⟩ := hcc (by omega)
            obtain ⟨hcs, hio⟩ := hcc i o ho
            have x0 : wr.cell? ⟨b, off + i * 3, none⟩ = some (.int .i64 o.kind) := by rw [hbw.cell (p := ⟨b, off + i * 3, none⟩) hbl]; exact hcs 0 _ rfl
            have x1 : wr.cell? ⟨b, off + i * 3 + 1, none⟩ = some (.int .i64 o.A) := by rw [hbw.cell (p := ⟨b, off + i * 3 + 1, none⟩) hbl]; exact hcs 1 _ rfl
            have x2 : wr.cell? ⟨b, off + i * 3 + 2, none⟩ = some (.slice o.a o.L.length o.c) := by rw [hbw.cell (p := ⟨b, off + i * 3 + 2, none⟩) hbl]; exact hcs 2 _ rfl
            have HIo := Lib.hid hio
            have hLo : o.L.length ≤ 60 := HLo.out o (List.mem_of_getElem? ho)
            have b0 : (0 : Int) ≤ (i : Int) := by omega
            have b1 : (i : Int) < (l.length : Int) := by omega
            have HSo := Lib.hid (ss_op HS.out o)
            clear hcs hio hcc hbl ho
            go_upto_block 2 with fail
            go_cut [10] from 81 to 210 (fun vx W => ∃ r', vx = .pointer (some ⟨r', 0, none⟩) ∧ Hid (∃ G', SS aw W r' rr G' BC))
            case first =>
              by_cases hk1 : o.kind = 1
              · have k1 : (o.kind == 1) = true := beq_iff_eq.2 hk1
                obtain ⟨T, x, y, e0⟩ : ∃ T x y, G.take o.A = (T, x, y) := ⟨_, _, _, rfl⟩
                have HT := Lib.hid (pt1 e0 HSo.out)
                have HT2 := Lib.hid (fun W (h : PS aw W r rr T G (opRow wr.heap.size o :: BC)) => pt2 e0 HG.out h)
                clear e0 hk1
                go_wp2_with (first
                  | (go_at_call 13; (with_reducible refine HT.out.mono ?_); rintro e w3 ⟨rfl, h⟩; obtain ⟨y0, y1, y2⟩ := op_at h; have HP := Lib.hid h; clear h)
                  | (go_at_call 14; (with_reducible refine (HT2.out _ HP.out).mono ?_); rintro e w4 ⟨rfl, G', h⟩; have HE := Lib.hid (ss_drop h); clear h))
                all_goals
                  go_meet
                  exact ⟨r, rfl, Lib.hid ⟨G', HE.out⟩⟩
              have k1 : (o.kind == 1) = false := beq_eq_false_iff_ne.2 hk1
              by_cases hk2 : o.kind = 2
              · have k2 : (o.kind == 2) = true := beq_iff_eq.2 hk2
                obtain ⟨z, hz⟩ : ∃ z : Int, z = (G.give o.A o.L).length - G.W.length := ⟨_, rfl⟩
                have HZ := Lib.hid hz
                clear hz hk2
                go_upto_region 37 with (go_at_call 8; (with_reducible refine (ss_lent HSo.out HIo.out hLo).mono ?_); rintro e w3 ⟨g, q, rfl, h⟩; obtain ⟨y0, y1, y2⟩ := op_at2 h; have HP := Lib.hid h; have HPd := Lib.hid (PS.over h ((Below.refl _ _).drew)); clear h)
                go_region_held3 (fun W => W.cell? ⟨wr.heap.size, 1, none⟩ = some (.int .i64 o.A) ∧ W.cell? ⟨wr.heap.size, 2, none⟩ = some (.slice o.a o.L.length o.c)) (first | exact (op_at2 HP.out).2 | exact (op_at2 HPd.out).2 | exact (op_at2 HP4.out).2 | exact (op_at2 HP5.out).2 | exact (op_at2 HP6.out).2) ((first
                  | (go_at_call 15; (with_reducible refine (pg1 HZ.out (by first | exact HPd.out | exact HP.out) hLo).mono ?_); rintro e w4 ⟨rfl, h⟩; have HP4 := Lib.hid h; clear h)
                  | (go_at_call 16; (with_reducible refine (pg2 HZ.out HG.out HP4.out HIo.out hLo).mono ?_); rintro e w5 ⟨rfl, G', h⟩; have HP5 := Lib.hid h; clear h)
                  | (go_at_call 10; (with_reducible refine (ss_stays HP5.out HIo.out).mono ?_); rintro e w6 ⟨rfl, hb⟩; have HP6 := Lib.hid (PS.over HP5.out hb); clear hb)))
                all_goals
                  go_wp2
                  go_meet
                  exact ⟨r, rfl, Lib.hid ⟨G', ss_drop (ss_drop HP6.out)⟩⟩
              have k2 : (o.kind == 2) = false := beq_eq_false_iff_ne.2 hk2
              by_cases hk3 : o.kind = 3
              · have k3 : (o.kind == 3) = true := beq_iff_eq.2 hk3
                obtain ⟨z, hz⟩ : ∃ z : Int, z = (relN o.A G.W : Nat) := ⟨_, rfl⟩
                have HZ := Lib.hid hz
                have HP := HSo
                have HPd := Lib.hid (PS.over HSo.out ((Below.refl _ _).drew))
                have y1 := (op_at HP.out).2.1
                clear hz hk3
                go_upto_region 40 with fail
                go_region_held3 (fun W => W.cell? ⟨wr.heap.size, 1, none⟩ = some (.int .i64 o.A)) (first | exact (op_at HP.out).2.1 | exact (op_at HPd.out).2.1 | exact (op_at HP4.out).2.1 | exact (op_at HP5.out).2.1) ((first
                  | (go_at_call 17; (with_reducible refine (pr1 HZ.out (by first | exact HPd.out | exact HP.out)).mono ?_); rintro e w4 ⟨rfl, h⟩; have HP4 := Lib.hid h; clear h)
                  | (go_at_call 18; (with_reducible refine (pr2 HZ.out HG.out HP4.out).mono ?_); rintro e w5 ⟨rfl, G', h⟩; have HP5 := Lib.hid h; clear h)))
                all_goals
                  go_wp2
                  go_meet
                  exact ⟨r, rfl, Lib.hid ⟨G', ss_drop HP5.out⟩⟩
              have k3 : (o.kind == 3) = false := beq_eq_false_iff_ne.2 hk3
              clear hk1 hk2 hk3
              go_wp2_with (first
                | (go_at_call 19; (with_reducible refine (SS.copy HSo.out).mono ?_); rintro e w3 ⟨r2, rfl, h⟩; have HC3 := Lib.hid h; clear h)
                | (go_at_call 13; (with_reducible refine (CP.take HC3.out 3).mono ?_); rintro e w4 ⟨x, y, rfl, h⟩; have HC4 := Lib.hid h; clear h)
                | (go_at_call 15; (with_reducible refine (CP.give HC4.out 1 2 3 4 5).mono ?_); rintro e w5 ⟨z, rfl, h⟩; have HC5 := Lib.hid h; clear h)
                | (go_at_call 17; (with_reducible refine (CP.rel HC5.out _).mono ?_); rintro e w6 ⟨z, rfl, h⟩; have HE := Lib.hid (ss_drop h); clear h))
              all_goals
                go_meet
                exact ⟨r2, rfl, Lib.hid ⟨G, HE.out⟩⟩
            case rest =>
              obtain ⟨r', rfl, HSg⟩ := hcut
              obtain ⟨G', hg⟩ := HSg.out
              have HS1 := Lib.hid hg
              have HG1 := Lib.hid hg.fine
              clear hg HSg HSo HS HG x0 x1 x2
              go_upto_region 46 with (first
                | (go_at_call 20; (with_reducible refine (PS.xfree HS1.out).mono ?_); rintro e w3 ⟨f1, f2, rfl, h⟩; have HS3 := Lib.hid h; clear h)
                | (go_at_call 21; (with_reducible refine (PS.xpend HS3.out tx).mono ?_); rintro e w4 ⟨g1, g2, rfl, h⟩; have HS4 := Lib.hid h; clear h)
                | (go_at_call 22; (with_reducible refine (PS.xall HS4.out).mono ?_); rintro e w5 ⟨h1, h2, rfl, h⟩; have HS5 := Lib.hid h; clear h)
                | (go_at_call 23; (with_reducible refine (keep1 rfl HS5.out HK.out (by omega) (L_le HG1.out) ⟨_, _, _, rfl⟩).mono ?_); rintro e w6 ⟨rfl, BC1, h, k⟩; have HS6 := Lib.hid h; have HK6 := Lib.hid k; clear h k)
                | (go_at_call 23; (with_reducible refine (keep2 rfl HS6.out HK6.out (by omega) (pend_le HG1.out tx) ⟨_, _, _, rfl⟩).mono ?_); rintro e w7 ⟨rfl, BC2, h, k⟩; have HS7 := Lib.hid h; have HK7 := Lib.hid k; clear h k)
                | (go_at_call 23; (with_reducible refine (keep3 rfl HS7.out HK7.out (by omega) (all_le HG1.out) ⟨_, _, _, rfl⟩).mono ?_); rintro e w8 ⟨rfl, BC3, h, k⟩; have HS8 := Lib.hid h; have HK8 := Lib.hid k; clear h k))
              have HSB := Lib.hid (fun W (hb : Below w8.heap.size w8 W) => PS.over HS8.out hb)
              obtain ⟨lva, lvc, hlv, -⟩ := HS8.out.glist
              have HX := Lib.hid (show ∀ W, Below w8.heap.size w8 W → W.cell? ⟨rr, 1, none⟩ = some (.slice lva G'.L.length lvc) ∧ W.cell? ⟨rr, 0, none⟩ = some (.int .i64 G'.pages) from fun W hb => ⟨by rw [← hlv]; exact (HSB.out W hb).gcells.2, (HSB.out W hb).gcells.1⟩)
              have HM1 := Lib.hid (fun W (hb : Below w8.heap.size w8 W) => same_ W _ _ G'.L (ss_read (HSB.out W hb) HK8.out (by simp) (L_le HG1.out) : IL W (.slice f1 G'.L.length f2) G'.L) (hlv ▸ (HSB.out W hb).glist : IL W (.slice lva G'.L.length lvc) G'.L))
              have HPn := Lib.hid (fun W (hb : Below w8.heap.size w8 W) => (HSB.out W hb).rpend tx)
              have HM2 := Lib.hid (fun W (hb : Below w8.heap.size w8 W) (b : Option Addr) (c : Nat) (h : IL W (.slice b (G'.pend tx).length c) (G'.pend tx)) => same_ W _ _ (G'.pend tx) (ss_read (HSB.out W hb) HK8.out (by simp) (pend_le HG1.out tx) : IL W (.slice g1 (G'.pend tx).length g2) (G'.pend tx)) h)
              have HAl := Lib.hid (fun W (hb : Below w8.heap.size w8 W) => (HSB.out W hb).rall)
              have HM3 := Lib.hid (fun W (hb : Below w8.heap.size w8 W) (b : Option Addr) (c : Nat) (h : IL W (.slice b G'.all.length c) G'.all) => same_ W _ _ G'.all (ss_read (HSB.out W hb) HK8.out (by simp) (all_le HG1.out) : IL W (.slice h1 G'.all.length h2) G'.all) h)
              have HPg := Lib.hid (fun W (hb : Below w8.heap.size w8 W) => (HSB.out W hb).1.pages_)
              have HB0 := Lib.hid (Below.refl w8.heap.size w8)
              have HBd := Lib.hid (Below.refl w8.heap.size w8).drew
              clear hlv HS1 HS3 HS4 HS5 HS6 HS7 HK6 HK7 HK
              go_region_held3 (fun W => W.cell? ⟨rr, 1, none⟩ = some (.slice lva G'.L.length lvc) ∧ W.cell? ⟨rr, 0, none⟩ = some (.int .i64 G'.pages)) (first | exact HX.out _ HB0.out | exact HX.out _ HBd.out | exact HX.out _ HB1.out | exact HX.out _ HB2.out | exact HX.out _ HB3.out | exact HX.out _ HB4.out | exact HX.out _ HB5.out) ((first
                | (go_at_call 24; (with_reducible refine (HM1.out _ (by first | exact HBd.out | exact HB0.out)).mono ?_); rintro e w9 ⟨rfl, hb⟩; have HB1 := Lib.hid (show Below w8.heap.size w8 w9 from (by first | exact thenBelow HBd.out hb | exact thenBelow HB0.out hb)); clear hb)
                | (go_at_call 25; (with_reducible refine (HPn.out _ HB1.out).mono ?_); rintro e w10 ⟨b10, c10, rfl, hi, hb⟩; have HI10 := Lib.hid hi; have HB2 := Lib.hid (thenBelow HB1.out hb); clear hi hb)
                | (go_at_call 24; (with_reducible refine (HM2.out _ HB2.out _ _ HI10.out).mono ?_); rintro e w11 ⟨rfl, hb⟩; have HB3 := Lib.hid (thenBelow HB2.out hb); clear hb)
                | (go_at_call 26; (with_reducible refine (HAl.out _ HB3.out).mono ?_); rintro e w12 ⟨b12, c12, rfl, hi, hb⟩; have HI12 := Lib.hid hi; have HB4 := Lib.hid (thenBelow HB3.out hb); clear hi hb)
                | (go_at_call 24; (with_reducible refine (HM3.out _ HB4.out _ _ HI12.out).mono ?_); rintro e w13 ⟨rfl, hb⟩; have HB5 := Lib.hid (thenBelow HB4.out hb); clear hb)
                | (go_at_call 27; (with_reducible refine (HPg.out _ HB5.out).mono ?_); rintro e w14 ⟨rfl, rfl⟩)))
              all_goals
                go_wp2
                go_roundw
                case rel => exact ⟨r', i + 1, by omega, rfl, by go_num, ⟨G', BC3, HSB.out _ HB5.out, by rw [show 3 * (i + 1) = 3 * i + 1 + 1 + 1 by omega]; exact HK8.out.less (fun x hx => by cases hx)⟩⟩
                case measure => simp [RowKit.intOf]; omega
          · obtain rfl : i = l.length := by omega
            have HNil : Hid (∀ W : World, IL (W.alloc (.cells #[.int .i64 2] 3)) (.slice (some ⟨W.heap.size, 0, none⟩) 1 1) [2]) := fun W => ⟨_, 1, rfl, (fun e => by cases e), by decide, fun _ => ⟨W.heap.size, 0, rfl, by simp, fun j x hj => by
              rw [Nat.zero_add, cell_at (new_at W _ _)]
              have hlt := (List.getElem?_eq_some_iff.1 hj).1
              obtain rfl : j = 0 := by simpa using hlt
              cases hj
              rfl⟩⟩
            have HGn := Lib.hid (fun (W : World) => give_nil (W.alloc (.cells #[.int .i64 2] 3)) 1 _ [2] (HNil.out W) (by decide))
            have HAp := Lib.hid (fun W (hb : Below wr.heap.size wr W) => ss_apart (PS.over HS.out hb) HK.out (by omega))
            clear HS HG hil
            go_wp2_with (first
              | (go_at_call 13; (with_reducible refine (take_nil _ 1).mono ?_); rintro e w3 ⟨rfl, rfl⟩)
              | (go_at_call 15; (with_reducible refine (HGn.out _).mono ?_); rintro e w4 ⟨rfl, rfl⟩)
              | (go_at_call 17; (with_reducible refine (rel_nil _ 5).mono ?_); rintro e w5 ⟨rfl, rfl⟩)
              | (go_at_call 27; (with_reducible refine (pages_nil _).mono ?_); rintro e w6 ⟨rfl, rfl⟩)
              | (go_at_call 22; (with_reducible refine (all_nil _).mono ?_); rintro e w7 ⟨u, rfl, rfl, rfl⟩)
              | (go_at_call 28; (with_reducible refine (HAp.out _ (below_new _ _)).mono ?_); rintro e w8 ⟨rfl, hb⟩; have HBe := Lib.hid (thenBelow HBA.out hb); clear hb))
            go_ret
            exact ⟨rfl, HBe.out⟩

end Go.Proofs.Ytoiaamijjcjjiaa.P7
