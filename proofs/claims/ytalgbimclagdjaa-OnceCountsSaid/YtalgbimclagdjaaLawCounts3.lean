/-
  P302, P303: counts and pins by every calls: the walk of the statement OnceCounts.
-/
import Derived.Test.YtalgbimclagdjaaCountsA
import Derived.Deep.LoopGhost
import Derived.Deep.CutRange
import Derived.Deep.CutBlock
namespace Go.Proofs.Ytalgbimclagdjaa.P3
open Go Go.RowKit Go.Lib Go.Maps Go.ChangeMaps Go.MapKept

set_option maxRecDepth 100000 in
theorem counts_skip (w : World) (v : Value) (d : List (Int × Int)) (hs : DosIn w v d) (h : 100 < d.length) :
    Calls Try.prog 5 #[v] w fun r w' => r = .returned (.bool true) ∧ Below w.heap.size w w' := by
  have K := fun w' => Lib.hid (alive_any w')
  obtain ⟨a, c, rfl, hl, _⟩ := hs
  obtain ⟨L, hL⟩ : ∃ L, L = d.length := ⟨_, rfl⟩
  rw [← hL] at h ⊢
  have k1 : decide ((100 : Int) < (L : Int)) = true := decide_eq_true (by omega)
  clear hL hl h
  go_enter Try.func5, Try.ntmps5
  go_wp2_with (go_at_call 9; refine (K _).out.mono ?_; rintro e w1 ⟨rfl, hb⟩)
  go_ret
  exact ⟨rfl, hb⟩

theorem counts_start (w w1 : World) (hb1 : Below w.heap.size w w1) :
    KSt w w1.heap.size (w1.heap.size + 1) 0 0 [] [] (.slice none 0 0) ((w1.alloc (.cells #[.int .i64 0] 54)).alloc (.cells #[.int .i32 0, .int .u32 0, .int .i64 0, .slice none 0 0, .map none] 61)) := by
  have hs : ∀ (u : World) (o : Obj), (u.alloc o).heap.size = u.heap.size + 1 := by intro u o; simp
  have hp := pins_new (w1.alloc (.cells #[.int .i64 0] 54))
  rw [hs] at hp
  exact { ct := old_alloc (heap_alloc_new w1 _) _, pn := hp, row := World.ownsRow_nil _ _ _ _, bel := grow (grow hb1 _) _, lo := hb1.size, lp := by omega }

set_option maxRecDepth 100000 in
set_option maxHeartbeats 1600000 in
theorem counts_in (w : World) (v : Value) (d : List (Int × Int)) (hs : DosIn w v d) (h : d.length ≤ 100) :
    Calls Try.prog 5 #[v] w fun r w' => r = .returned (.bool true) ∧ Below w.heap.size w w' := by
  have K := fun w' => Lib.hid (alive_any w')
  obtain ⟨a, c, hv, hl, h2⟩ := hs
  obtain ⟨L, hL⟩ : ∃ L, L = d.length := ⟨_, rfl⟩
  rw [← hL] at h hv
  subst hv
  have HL := Lib.hid hL
  have H2 := Lib.hid h2
  have k1 : decide ((100 : Int) < (L : Int)) = false := decide_eq_false (by omega)
  have b1 : (L : Int) ≤ 100 := by omega
  have b0 : (0 : Int) ≤ (L : Int) := by omega
  have HS := fun w1 hb1 => Lib.hid (counts_start w w1 hb1)
  obtain ⟨i0, hi, hz9⟩ := Option.map_eq_some_iff.1 infoLawPin
  simp only [Prod.mk.injEq, Option.map_eq_some_iff] at hz9
  obtain ⟨⟨z, hz0, hzc⟩, hz1, hz2⟩ := hz9
  have HZ : Hid (z.cells.size = 2) := by rw [hzc]; exact rfl
  clear hzc
  clear hL hl h h2
  go_enter Try.func5, Try.ntmps5
  go_wp2_with (go_at_call 9; refine (K _).out.mono ?_; rintro e w1 ⟨rfl, hb1⟩; have HK := HS w1 hb1; clear HS)
  obtain ⟨bc, hbc⟩ : ∃ bc, bc = w1.heap.size := ⟨_, rfl⟩
  rw [← hbc] at HK ⊢
  clear hbc hb1 K
  generalize (w1.alloc (.cells #[.int .i64 0] 54)).alloc (.cells #[.int .i32 0, .int .u32 0, .int .i64 0, .slice none 0 0, .map none] 61) = w2 at *
  go_loopg [5, 6, 7, 8] (L) (fun g vn vN vl vi wr => ∃ k N : Nat, k ≤ L ∧ L - k ≤ g ∧ N ≤ k ∧ vi = .int .i64 k ∧ vN = .int .i64 N ∧ (∃ n, vn = .int .i64 n ∧ ∃ l : PinL, l.length ≤ N ∧ Hid (KSt w bc (bc + 1) n N l l vl wr)))
  case atStart => exact ⟨0, 0, Nat.zero_le _, by omega, Nat.le_refl _, rfl, rfl, _, rfl, [], Nat.le_refl _, HK.out⟩
  case round =>
    clear HK
    obtain ⟨k, N, hk, hg, hN, rfl, rfl, n, rfl, l, hlen, hS⟩ := hrel
    by_cases hlt : k < L
    · have b2 : (k : Int) < (L : Int) := by omega
      have b3 : (0 : Int) ≤ (k : Int) := by omega
      obtain ⟨b, off, rfl, hb, he⟩ := H2.out (by rw [← HL.out]; omega)
      obtain ⟨e1, e2, hwf⟩ := he k (by rw [← HL.out]; exact hlt)
      generalize d.getD k (0, 0) = q at e1 e2 hwf
      obtain ⟨K, q⟩ := q
      simp only at e1 e2 hwf
      have e1' : wr.cell? ⟨b, off + k * 2, none⟩ = some (.int .i64 K) := by rw [hS.out.bel.cell (p := ⟨b, off + k * 2, none⟩) hb]; exact e1
      have e2' : wr.cell? ⟨b, off + k * 2 + 1, none⟩ = some (.int .i64 q) := by rw [hS.out.bel.cell (p := ⟨b, off + k * 2 + 1, none⟩) hb]; exact e2
      have HWF := Lib.hid hwf
      have HSo := Lib.hid (hS.out.below (below_new wr (.cells #[.int .i64 K, .int .i64 q] 64)))
      have hO : (wr.alloc (.cells #[.int .i64 K, .int .i64 q] 64)).heap[wr.heap.size]? = some (.cells #[.int .i64 K, .int .i64 q] 64) := new_at wr _ _
      have o0 : (wr.alloc (.cells #[.int .i64 K, .int .i64 q] 64)).cell? ⟨wr.heap.size, 0, none⟩ = some (.int .i64 K) := by rw [cell_at hO]; rfl
      have o1 : (wr.alloc (.cells #[.int .i64 K, .int .i64 q] 64)).cell? ⟨wr.heap.size, 1, none⟩ = some (.int .i64 q) := by rw [cell_at hO]; rfl
      have HO := Lib.hid hO
      clear e1 e2 hwf he hO hS
      generalize hWo : wr.alloc (.cells #[.int .i64 K, .int .i64 q] 64) = wo at *
      have HWo := Lib.hid hWo
      generalize hbo : wr.heap.size = bo at *
      have bN : (N : Int) ≤ 100 := by omega
      have bN0 : (0 : Int) ≤ (N : Int) := by omega
      obtain ⟨a7, m, c7, rfl, hm⟩ := row_slice HSo.out.row
      have bm : (m : Int) ≤ 100 := by have := hm.out; omega
      have bm0 : (0 : Int) ≤ (m : Int) := by omega
      go_upto_block 2 with fail
      go_cut [5, 6, 7] from 30 to 180 (fun vn vN vl wc => ∃ N' : Nat, N' ≤ k + 1 ∧ vN = .int .i64 N' ∧ (∃ n', vn = .int .i64 n' ∧ ∃ l' : PinL, l'.length ≤ N' ∧ Hid (KSt w bc (bc + 1) n' N' l' l' vl wc)))
      case first =>
        by_cases K1 : K = 1
        · subst K1
          have HC := Lib.hid (k_add HSo.out q)
          go_wp2_with (go_at_call 17; (with_reducible refine HC.out.mono ?_); rintro e w3 ⟨rfl, h3⟩)
          go_meet
          case rel => exact ⟨N, by omega, rfl, _, rfl, l, hlen, h3⟩
        have f1 : (K == 1) = false := by simpa using K1
        by_cases K2 : K = 2
        · subst K2
          have HC := Lib.hid (k_most HSo.out q)
          by_cases hd : n < q
          · have em : max n q = q := by omega
            rw [em] at HC
            have kd : decide (n < q) = true := decide_eq_true hd
            clear em
            go_wp2_with (go_at_call 18; (with_reducible refine HC.out.mono ?_); rintro e w3 ⟨rfl, h3⟩)
            go_meet
            case rel => exact ⟨N, by omega, rfl, _, rfl, l, hlen, h3⟩
          · have em : max n q = n := by omega
            rw [em] at HC
            have kd : decide (n < q) = false := decide_eq_false hd
            clear em
            go_wp2_with (go_at_call 18; (with_reducible refine HC.out.mono ?_); rintro e w3 ⟨rfl, h3⟩)
            go_meet
            case rel => exact ⟨N, by omega, rfl, _, rfl, l, hlen, h3⟩
        have f2 : (K == 2) = false := by simpa using K2
        by_cases K3 : K = 3
        · subst K3
          by_cases hd : n < q
          · have HC := Lib.hid (k_take_yes HSo.out q hd)
            have kd : decide (n < q) = true := decide_eq_true hd
            go_wp2_with (go_at_call 19; (with_reducible refine HC.out.mono ?_); rintro e w3 ⟨rfl, h3⟩)
            go_meet
            case rel => exact ⟨N, by omega, rfl, _, rfl, l, hlen, h3⟩
          · have HC := Lib.hid (k_take_no HSo.out q hd)
            have kd : decide (n < q) = false := decide_eq_false hd
            go_wp2_with (go_at_call 19; (with_reducible refine HC.out.mono ?_); rintro e w3 ⟨rfl, h3⟩)
            go_meet
            case rel => exact ⟨N, by omega, rfl, _, rfl, l, hlen, h3⟩
        have f3 : (K == 3) = false := by simpa using K3
        by_cases K4 : K = 4
        · subst K4
          go_wp2_with (at_builtin; refine wpList_append_own _ rfl _ _ 62 rfl (bc + 1 + 1) 68 i0 z 2 16 Try.underlying62 hi hz0 hz1 hz2 HZ.out (by decide) _ l.length (rowOf l) rfl (HSo.out.row.alloc _) ⟨wo.heap.size, 0, none⟩ 1 1 [.int .i64 ((N : Int) + 1), .int .i64 q] rfl rfl ?c1 ?c2 ?c3 ?c4 ?c5 ?_)
          case c1 => exact cell_two_new _ _ _ _
          case c2 => intro u hu; simp at hu; rcases hu with rfl | rfl <;> rfl
          case c3 => unfold maxLen; omega
          case c4 => omega
          case c5 => have := HSo.out.room; simp; omega
          intro v' w4 hown' hgrow _
          have HSa := HSo.out.below (below_new wo (.cells #[.int .i64 ((N : Int) + 1), .int .i64 q] 68))
          have HS4 : Hid (KSt w bc (bc + 1) n N l (l ++ [(q, (N : Int) + 1)]) v' w4) := HSa.grown hgrow (by rw [rowOf_app, List.length_append]; exact hown')
          have o4 : w4.cell? ⟨bo, 1, none⟩ = some (.int .i64 q) := by rw [cell_at (HSa.grown_keep hgrow (old_alloc HO.out _) (by decide))]; rfl
          have HP := Lib.hid (k_pin HS4.out (by omega) q)
          clear hown' hgrow HSa HS4
          go_wp2_with (go_at_call 20; (with_reducible refine HP.out.mono ?_); rintro e w5 ⟨rfl, h5⟩)
          go_meet
          case rel => exact ⟨N + 1, by omega, rfl, _, rfl, _, by simp; omega, h5⟩
        have f4 : (K == 4) = false := by simpa using K4
        go_wp2_with fail
        go_loopg [11, 12] (m) (fun g vu vj wx => ∃ j : Nat, j ≤ m ∧ m - j ≤ g ∧ vj = .int .i64 j ∧ Hid (Below wo.heap.size wo wx) ∧ Hid (wx.ownsRow wo.heap.size 68 2 vu (without q (l.take j)).length (rowOf (without q (l.take j)))))
        case atStart => exact ⟨0, Nat.zero_le _, by omega, rfl, Below.refl _ _, World.ownsRow_nil _ _ _ _⟩
        case round =>
          obtain ⟨j, hj, hgj, rfl, hB, hR⟩ := hrel
          by_cases hjm : j < m
          · have b4 : (j : Int) < (m : Int) := by omega
            have b5 : (0 : Int) ≤ (j : Int) := by omega
            have hjl : j < l.length := by rw [← hm.out]; exact hjm
            obtain ⟨g7, rfl, _, hlt7, hc7⟩ := row_some HSo.out.row (by omega)
            obtain ⟨c0, c1⟩ := hc7 j hjl
            have d0 : wr.cell? ⟨g7, j * 2, none⟩ = some (.int .i64 (l.getD j (0, 0)).2) := (hB.out.cell (p := ⟨g7, j * 2, none⟩) hlt7).trans c0
            have d1 : wr.cell? ⟨g7, j * 2 + 1, none⟩ = some (.int .i64 (l.getD j (0, 0)).1) := (hB.out.cell (p := ⟨g7, j * 2 + 1, none⟩) hlt7).trans c1
            have oo : wr.cell? ⟨bo, 1, none⟩ = some (.int .i64 q) := (hB.out.cell (p := ⟨bo, 1, none⟩) (lt_of_block HO.out)).trans o1
            have hst := without_step q (l.take j) (l.getD j (0, 0))
            rw [← take_step l j hjl] at hst
            generalize l.getD j (0, 0) = p at d0 d1 hst
            obtain ⟨pn, pi⟩ := p
            simp only at d0 d1 hst
            have HST := Lib.hid hst
            clear hc7 c0 c1 hst o0 o1 hjl
            by_cases hpq : pi = q
            · have kq : (pi != q) = false := by simp [hpq]
              have HQ := Lib.hid hpq
              clear hpq
              go_wp2
              go_quiet (fail)
              go_wp2
              go_roundg (m - (j + 1))
              case measure => omega
              case rel => exact ⟨j + 1, by omega, by omega, rfl, (thenBelow hB.out (below_drewN wr _)), by rw [HST.out, if_pos HQ.out, List.append_nil]; exact hR.out⟩
            · have kq : (pi != q) = true := by simp [hpq]
              have HQ := Lib.hid hpq
              clear hpq
              go_wp2
              go_quiet (fail)
              have hxl := without_len q (l.take j)
              rw [List.length_take] at hxl
              have hxm : (without q (l.take j)).length ≤ 100 := by omega
              clear hxl
              go_wp2_with (at_builtin; refine wpList_append_own _ rfl _ _ 62 rfl wo.heap.size 68 i0 z 2 16 Try.underlying62 hi hz0 hz1 hz2 HZ.out (by decide) _ (without q (l.take j)).length (rowOf (without q (l.take j))) rfl (World.ownsRow.alloc (w := wr.drewN nq) hR.out _) ⟨wr.heap.size, 0, none⟩ 1 1 [.int .i64 pi, .int .i64 pn] rfl rfl ?c1 ?c2 ?c3 ?c4 ?c5 ?_)
              case c1 => exact cell_two_new (wr.drewN nq) _ _ _
              case c2 => intro u hu; simp at hu; rcases hu with rfl | rfl <;> rfl
              case c3 => unfold maxLen; omega
              case c4 => omega
              case c5 => have := hB.out.size; simp; omega
              intro v' w4 hown' hgrow _
              have hB4 : Hid (Below wo.heap.size wo w4) := (grow (thenBelow hB.out (below_drewN wr nq)) _).grown hgrow (by have := hB.out.size; simp; omega) (fun k hk => (hR.out.lt k hk).1)
              have hR4 : Hid (w4.ownsRow wo.heap.size 68 2 v' (without q (l.take (j + 1))).length (rowOf (without q (l.take (j + 1))))) := by
                rw [HST.out, if_neg HQ.out, List.length_append, rowOf_app]
                exact hown'
              clear hown' hgrow hR hB
              go_wp2
              go_roundg (m - (j + 1))
              case measure => omega
              case rel => exact ⟨j + 1, by omega, by omega, rfl, hB4.out, hR4.out⟩
          · obtain rfl : j = m := by omega
            have HK := Lib.hid (HSo.out.other hB.out (r' := without q l) (by have := hR.out; rw [hm.out, List.take_length] at this; exact this))
            obtain ⟨a8, m8, c8, rfl, hm8⟩ := row_slice HK.out.row
            have HD := Lib.hid (k_drop HK.out q HWF.out)
            rw [← hm.out, ← hm8.out] at HD
            have oo : wr.cell? ⟨bo, 1, none⟩ = some (.int .i64 q) := (hB.out.cell (p := ⟨bo, 1, none⟩) (lt_of_block HO.out)).trans o1
            have hl8 : (without q l).length ≤ N := by have := without_len q l; omega
            clear o0 o1 hR hB HK
            go_wp2_with (go_at_call 21; (with_reducible refine HD.out.mono ?_); rintro e w5 ⟨rfl, h5⟩)
            go_meet
            case rel => exact ⟨N, by omega, rfl, _, rfl, _, hl8, h5⟩
      case rest =>
        obtain ⟨N', hN', rfl, ⟨n', rfl, l', hlen', hS'⟩⟩ := hcut
        clear HSo HWo HO hWo hbo o0 o1 e1' e2' hm bm bm0 hlen bN bN0
        obtain ⟨a8, p, c8, rfl, hp⟩ := row_slice hS'.out.row
        have bp : (p : Int) ≤ 101 := by have := hp.out; omega
        have bp0 : (0 : Int) ≤ (p : Int) := by omega
        go_wp2_with fail
        go_loopg [13, 15] (p) (fun g vx vj wx => ∃ j : Nat, j ≤ p ∧ p - j ≤ g ∧ vj = .int .i64 j ∧ (∃ x, vx = .int .i64 x ∧ Hid (x = least (l'.take j))) ∧ Hid (KSt w bc (bc + 1) n' N' l' l' (.slice a8 p c8) wx))
        case atStart => exact ⟨0, Nat.zero_le _, by omega, rfl, ⟨0, rfl, rfl⟩, hS'.out⟩
        case round =>
          clear hS'
          obtain ⟨j, hj, hgj, rfl, ⟨x, rfl, hx⟩, hT⟩ := hrel
          by_cases hjp : j < p
          · have b4 : (j : Int) < (p : Int) := by omega
            have b5 : (0 : Int) ≤ (j : Int) := by omega
            have hjl : j < l'.length := by rw [← hp.out]; exact hjp
            obtain ⟨g8, rfl, _, _, hc8⟩ := row_some hT.out.row (by omega)
            obtain ⟨_, d1⟩ := hc8 j hjl
            have hst := least_step (l'.take j) (l'.getD j (0, 0))
            rw [← take_step l' j hjl, ← hx.out] at hst
            generalize l'.getD j (0, 0) = e at d1 hst
            obtain ⟨en, ei⟩ := e
            simp only at d1 hst
            have HST := Lib.hid hst
            have he0 : Hid (j ≠ 0 → l'.take j ≠ []) := fun h e => by
              have := congrArg List.length e
              rw [List.length_take, List.length_nil] at this
              omega
            clear hc8 hst hjl
            by_cases hj0 : j = 0
            · subst hj0
              go_wp2
              go_roundg (p - (0 + 1))
              case measure => omega
              case rel => exact ⟨0 + 1, by omega, by omega, rfl, ⟨_, rfl, by rw [HST.out, if_pos (by simp)]; exact rfl⟩, hT.out⟩
            · have kj : ((j : Int) == 0) = false := by simp; omega
              have HE := Lib.hid (he0.out hj0)
              by_cases hlt2 : en < x
              · have kx : decide (en < x) = true := decide_eq_true hlt2
                have HX : Hid (en = least (l'.take (j + 1))) := by rw [HST.out, if_neg HE.out, if_pos hlt2]; exact rfl
                clear hj0 hlt2 hx he0
                go_wp2
                go_roundg (p - (j + 1))
                case measure => omega
                case rel => exact ⟨j + 1, by omega, by omega, rfl, ⟨_, rfl, HX.out⟩, hT.out⟩
              · have kx : decide (en < x) = false := decide_eq_false hlt2
                have HX : Hid (x = least (l'.take (j + 1))) := by rw [HST.out, if_neg HE.out, if_neg hlt2]; exact rfl
                clear hj0 hlt2 hx he0
                go_wp2
                go_roundg (p - (j + 1))
                case measure => omega
                case rel => exact ⟨j + 1, by omega, by omega, rfl, ⟨_, rfl, HX.out⟩, hT.out⟩
          · obtain rfl : j = p := by omega
            have hx2 : x = least l' := by have := hx.out; rw [hp.out, List.take_length] at this; exact this
            have HLe := Lib.hid (k_least hT.out)
            rw [← hx2, ← hp.out] at HLe
            clear hx hx2 hT
            go_wp2_with (go_at_call 22; (with_reducible refine HLe.out.mono ?_); rintro e w5 ⟨rfl, h5⟩)
            have HNo := Lib.hid (k_now h5)
            have HLn := Lib.hid (k_len h5)
            rw [← hp.out] at HLn
            clear h5 HLe
            go_wp2_with (first
              | (go_at_call 23; (with_reducible refine HNo.out.mono ?_); rintro e w6 ⟨rfl, rfl⟩)
              | (go_at_call 24; (with_reducible refine HLn.out.mono ?_); rintro e w7 ⟨rfl, h7⟩))
            go_roundg (L - (k + 1))
            case measure => omega
            case rel => exact ⟨k + 1, N', by omega, by omega, by omega, rfl, rfl, _, rfl, l', hlen', h7⟩
    · obtain rfl : k = L := by omega
      go_wp2
      go_ret
      exact ⟨rfl, hS.out.bel⟩

theorem counts_walk (w : World) (v : Value) (d : List (Int × Int)) (hs : DosIn w v d) :
    Calls Try.prog 5 #[v] w fun r w' => r = .returned (.bool true) ∧ Below w.heap.size w w' := by
  by_cases h : d.length ≤ 100
  · exact counts_in w v d hs h
  · exact counts_skip w v d hs (by omega)

end Go.Proofs.Ytalgbimclagdjaa.P3
