/-
  P602, P603, W1: metas are written in turn, each in its slot, one of them torn anywhere: the walk of the statement MetaTurns. (Written by gen_meta_turns.py.)
-/
import Derived.Test.YtnmklhajpcnkoaaArgs6
import Derived.Test.YtnmklhajpcnkoaaMt17
import Derived.Deep.Cut
import Derived.Deep.CutRange
import Derived.Deep.RegionHeld3
namespace Go.Proofs.Ytnmklhajpcnkoaa.P6
open Go Go.RowKit Go.Lib Go.Proofs.Ytnmklhajpcnkoaa.P0 Go.Proofs.Ytnmklhajpcnkoaa.P2 Go.Proofs.Ytnmklhajpcnkoaa.P5

set_option maxRecDepth 100000 in
theorem turns_skip (w : World) (a : Option Addr) (n cp : Nat) (c : Int) (h : ¬ (n ≤ 30 ∧ 0 ≤ c ∧ c ≤ 256)) :
    Calls Try.prog 4 #[.slice a n cp, .int .i64 c] w fun r w' => r = .returned (.bool true) ∧ Below w.heap.size w w' := by
  have K := fun w' => Lib.hid (alive_any6 w')
  by_cases h1 : n ≤ 30
  · have k1 : decide ((30 : Int) < (n : Int)) = false := decide_eq_false (by omega)
    have k1' : decide (30 < n) = false := decide_eq_false (by omega)
    by_cases h2 : 0 ≤ c
    · have k2 : decide (c < 0) = false := decide_eq_false (by omega)
      have k3 : decide ((256 : Int) < c) = true := decide_eq_true (by omega)
      clear h h1 h2
      go_enter Try.func4, Try.ntmps4
      go_wp2_with (go_at_call 6; (with_reducible refine (K _).out.mono ?_); rintro e w1 ⟨rfl, hb⟩)
      go_ret
      exact ⟨rfl, hb⟩
    · have k2 : decide (c < 0) = true := decide_eq_true (by omega)
      clear h h1 h2
      go_enter Try.func4, Try.ntmps4
      go_wp2_with (go_at_call 6; (with_reducible refine (K _).out.mono ?_); rintro e w1 ⟨rfl, hb⟩)
      go_ret
      exact ⟨rfl, hb⟩
  · have k1 : decide ((30 : Int) < (n : Int)) = true := decide_eq_true (by omega)
    have k1' : decide (30 < n) = true := decide_eq_true (by omega)
    clear h h1
    go_enter Try.func4, Try.ntmps4
    go_wp2_with (go_at_call 6; (with_reducible refine (K _).out.mono ?_); rintro e w1 ⟨rfl, hb⟩)
    go_ret
    exact ⟨rfl, hb⟩

theorem of_empty {s : ByteArray} (e : s.toList.isEmpty = true) : s = ⟨#[]⟩ := by
  rw [List.isEmpty_iff, ByteArray.toList_eq] at e
  exact text_ext e
theorem of_full {s : ByteArray} (e : s.toList.isEmpty = false) : s ≠ ⟨#[]⟩ := by
  rintro rfl
  rw [ByteArray.toList_eq] at e
  exact absurd e (by decide)
theorem Bkd.fill0 {w0 : World} {l : List (Nat × Array Value × TypeId)} {w : World} {b : Nat} {c0 c1 c2 c3 : Value} {t : TypeId} (h : Bkd w0 ((b, #[c0, c1, c2, c3], t) :: l) w) (a0 a1 a2 a3 : Value) :
    Bkd w0 ((b, #[a0, a1, a2, a3], t) :: l) ((((w.setCell ⟨b, 0, none⟩ a0).setCell ⟨b, 1, none⟩ a1).setCell ⟨b, 2, none⟩ a2).setCell ⟨b, 3, none⟩ a3) :=
  (((h.set 0 rfl 0 a0).set 0 rfl 1 a1).set 0 rfl 2 a2).set 0 rfl 3 a3
/-- the slots, while metas are written: in block b of one's own -/
def SlotsAt (w0 : World) (b : Nat) (s0 s1 : ByteArray) (w : World) : Prop := Bkd w0 [(b, #[.string s0, .string s1], 9)] w

set_option maxRecDepth 100000 in
set_option maxHeartbeats 8000000 in
theorem turns_in (w : World) (v : Value) (l : List Mt) (hl : MetasIn w v l) (h30 : l.length ≤ 30) (c : Nat) (hc : c ≤ 256) :
    Calls Try.prog 4 #[v, .int .i64 c] w fun r w' => r = .returned (.bool true) ∧ Below w.heap.size w w' := by
  obtain ⟨a, cp, rfl, hlen, hcell⟩ := hl
  have K := fun w' => Lib.hid (alive_any6 w')
  have k1 : decide ((30 : Int) < (l.length : Int)) = false := decide_eq_false (by omega)
  have k1' : decide (30 < l.length) = false := decide_eq_false (by omega)
  have k2 : decide ((c : Int) < 0) = false := decide_eq_false (by omega)
  have k3 : decide ((256 : Int) < (c : Int)) = false := decide_eq_false (by omega)
  have k3' : decide (256 < c) = false := decide_eq_false (by omega)
  have HC := Lib.hid hcell
  clear hcell hlen
  go_enter Try.func4, Try.ntmps4
  go_wp2_with (go_at_call 6; (with_reducible refine (K _).out.mono ?_); rintro e w1 ⟨rfl, hb⟩; have st0 := ((Bkd.nil w).over hb).new #[.string ⟨#[]⟩, .string ⟨#[]⟩] 9; have ST0 := Lib.hid st0; clear st0 hb)
  go_loopg [6, 7] (l.length) (fun q vt vi wr => ∃ (i k : Nat) (s0 s1 : ByteArray), l.length - i ≤ q ∧ vi = .int .i64 i ∧ vt = .int .i64 k ∧ i ≤ l.length ∧ k ≤ i ∧ Hid (Turn k s0 s1) ∧ Hid (SlotsAt w w1.heap.size s0 s1 wr))
  case atStart => exact ⟨0, 0, ⟨#[]⟩, ⟨#[]⟩, by omega, rfl, rfl, Nat.zero_le _, Nat.le_refl _, Turn.start, ST0.out⟩
  case round =>
    obtain ⟨i, k, s0, s1, hq, rfl, rfl, hi, hk, HT, HS⟩ := hrel
    clear ST0
    by_cases hil : i < l.length
    · have b0 : (0 : Int) ≤ (i : Int) := by omega
      have b1 : (i : Int) < (l.length : Int) := by omega
      have b2 : decide ((i : Int) < (l.length : Int)) = true := decide_eq_true b1
      have b2' : decide (i < l.length) = true := decide_eq_true hil
      obtain ⟨b, off, rfl, hbl, hcc⟩ := HC.out (by omega)
      obtain ⟨o, ho⟩ : ∃ o, l[i]? = some o := ⟨_, List.getElem?_eq_getElem hil⟩
      have hcells := hcc i o ho
      have HXc : Hid (∀ W, Below w.heap.size w W → W.cell? ⟨b, off + i * 4, none⟩ = some (.int .i64 o.tx) ∧ W.cell? ⟨b, off + i * 4 + 1, none⟩ = some (.int .i64 o.root) ∧ W.cell? ⟨b, off + i * 4 + 2, none⟩ = some (.int .i64 o.free) ∧ W.cell? ⟨b, off + i * 4 + 3, none⟩ = some (.int .i64 o.pages)) := fun W hW =>
        ⟨by rw [hW.cell (p := ⟨b, off + i * 4, none⟩) hbl]; exact hcells 0 _ rfl, by rw [hW.cell (p := ⟨b, off + i * 4 + 1, none⟩) hbl]; exact hcells 1 _ rfl, by rw [hW.cell (p := ⟨b, off + i * 4 + 2, none⟩) hbl]; exact hcells 2 _ rfl, by rw [hW.cell (p := ⟨b, off + i * 4 + 3, none⟩) hbl]; exact hcells 3 _ rfl⟩
      clear hcells hcc ho HC
      obtain ⟨x0, x1, x2, x3⟩ := o
      simp only at HXc
      obtain ⟨r0, r1, r2, r3⟩ := HXc.out wr HS.out.bks.below
      clear HXc
      have V := fun W => Lib.hid (mvalid_any W ⟨(k : Int) + 1, x1, x2, x3⟩)
      have kw : IntKind.i64.wrap ((k : Int) + 1) = (k : Int) + 1 := by rw [IntKind.wrap_i64]; omega
      have s1a := Bkd.new HS.out (Mt.mk ((k : Int) + 1) x1 x2 x3).cells 23
      have HS1 := Lib.hid s1a
      clear s1a
      by_cases hok : (Mt.mk ((k : Int) + 1) x1 x2 x3).ok
      · rw [decide_eq_true hok] at V
        have hr := (Mt.mk ((k : Int) + 1) x1 x2 x3).ok_range hok
        have L := fun W => Lib.hid (mlay_ok W ⟨(k : Int) + 1, x1, x2, x3⟩ hok)
        have SL := fun W => Lib.hid (slot_any W ((k : Int) + 1) (by omega) (by omega))
        obtain ⟨j, SJ, t0, t1, n0, n1, O, T, hj2, hjp, hcs, hOs, HE1, HE2, hTT, hct, hcn, hT2, hN3, hN4, hN5⟩ := turn_pack HT.out (by omega) hok rfl hc
        rw [hjp] at SL
        have rm : ((k : Int) + 1).tmod 2 = j := by rw [Int.tmod_eq_emod_of_nonneg (by omega)]; exact hjp
        have hS := (Mt.mk ((k : Int) + 1) x1 x2 x3).sector_size hok
        obtain ⟨eb, heb⟩ : ∃ eb : Bool, SJ.toList.isEmpty = eb := ⟨_, rfl⟩
        have HT2 := Lib.hid hT2
        have HN3 := Lib.hid hN3
        have C2 := fun W => Lib.hid (choose_any W t0 t1)
        have C3 := fun W => Lib.hid (choose_any W n0 n1)
        rw [hN4, hN5] at C3
        have ZR := fun W => Lib.hid (show Calls Try.prog 18 #[.int .i64 256] W fun r w' => r = .returned (.string (zer 256)) ∧ Below W.heap.size W w' from rZeros_any W 256 (by decide))
        have OE1 := Lib.hid HE1
        have OE2 := Lib.hid HE2
        have j0 : (0 : Int) ≤ (j : Int) := by omega
        have j1 : (j : Int) < 2 := by omega
        have HCS := Lib.hid hcs
        have HCT := Lib.hid hct
        have HCN := Lib.hid hcn
        have HTT := Lib.hid hTT
        have EM := fun W : World => meta_neq W ⟨(k : Int) + 1, x1, x2, x3⟩ ⟨(k : Int) + 1, x1, x2, x3⟩
        rw [Mt.same_self] at EM
        clear hr hok hT2 hN3 hN4 hN5 HE1 HE2 hcs hct hcn hTT hjp
        generalize (Mt.mk ((k : Int) + 1) x1 x2 x3).sector = S at *
        unfold Mt.v Mt.cells at *
        go_upto_if 77 with (first
          | (go_at_call 10; (with_reducible refine (V _).out.mono ?_); rintro e w2 ⟨rfl, hb⟩; have s2 := HS1.out.over hb; clear hb; obtain ⟨m0, m1, m2, m3⟩ := cells4 (s2.bks.at_ 0 rfl))
          | (go_at_call 7; (with_reducible refine (L _).out.mono ?_); rintro e w3 ⟨rfl, hb⟩; have s3 := s2.over hb; clear hb; obtain ⟨m0, m1, m2, m3⟩ := cells4 (s3.bks.at_ 0 rfl); obtain ⟨d0, d1⟩ := cells2 (s3.bks.at_ 1 rfl); have dj := (cell_at (s3.bks.at_ 1 rfl) j).trans HCS.out)
          | (go_at_call 12; (with_reducible refine (SL _).out.mono ?_); rintro e w4 ⟨rfl, rfl⟩))
        go_cut [12] from 36 to 173 (fun o W => o = .string O ∧ Hid (Bkd w [(wr.heap.size, #[.int .i64 ((k : Int) + 1), .int .i64 x1, .int .i64 x2, .int .i64 x3], 23), (w1.heap.size, #[.string s0, .string s1], 9)] W))
        case first =>
          cases eb
          · have z1 := Lib.hid (OE2.out (of_full heb))
            clear heb
            go_wp2_with fail
            go_meet
            exact ⟨congrArg _ z1.out, Lib.hid s3⟩
          · have z1 := OE1.out (of_empty heb)
            rw [z1] at ZR
            clear z1 heb
            go_wp2_with (go_at_call 18; (with_reducible refine (ZR _).out.mono ?_); rintro e w5 ⟨rfl, hb⟩; have s4 := s3.over hb; clear hb)
            go_meet
            exact ⟨rfl, Lib.hid s4⟩
        case rest =>
          obtain ⟨rfl, H4⟩ := hcut
          clear heb s2 s3 m0 m1 m2 m3 d0 d1 dj OE1 OE2 ZR SL L V
          have s4 := H4.out
          obtain ⟨m0, m1, m2, m3⟩ := cells4 (s4.bks.at_ 0 rfl)
          obtain ⟨d0, d1⟩ := cells2 (s4.bks.at_ 1 rfl)
          have i1 : (c : Int) ≤ (S.size : Int) := by omega
          have i2 : (c : Int) ≤ (O.size : Int) := by omega
          have HQ4 : Hid (∀ n, Bkd w [(wr.heap.size, #[.int .i64 ((k : Int) + 1), .int .i64 x1, .int .i64 x2, .int .i64 x3], 23), (w1.heap.size, #[.string s0, .string s1], 9)] (wc.drewN n)) := fun n => ⟨s4.bks.drewN n, s4.nd⟩
          go_upto_region 20 with fail
          go_quiet (fail)
          go_upto_region 21 with fail
          go_cut [14] from 36 to 173 (fun tw W => ∃ b, tw = .slice (some ⟨b, 0, none⟩) 2 2 ∧ Hid (Bkd w [(b, #[.string s0, .string s1], 9), (wr.heap.size, #[.int .i64 ((k : Int) + 1), .int .i64 x1, .int .i64 x2, .int .i64 x3], 23), (w1.heap.size, #[.string s0, .string s1], 9)] W))
          case first =>
            go_region
            all_goals
              go_wp2_with fail
              go_meet
              exact ⟨_, rfl, Lib.hid ((HQ4.out _).new _ _)⟩
          case rest =>
            clear s4 H4 m0 m1 m2 m3 d0 d1 HQ4
            obtain ⟨bt, rfl, H5⟩ := hcut
            have s5 := H5.out
            obtain ⟨u0, u1⟩ := cells2 (s5.bks.at_ 0 rfl)
            obtain ⟨f0, f1⟩ := free2 (s5.bks.at_ 0 rfl)
            have tj := (cell_at (s5.bks.at_ 0 rfl) j).trans HCS.out
            have fj := free_at (s5.bks.at_ 0 rfl) j
            have s6 : Bkd w [(bt, #[.string t0, .string t1], 9), (wr.heap.size, #[.int .i64 ((k : Int) + 1), .int .i64 x1, .int .i64 x2, .int .i64 x3], 23), (w1.heap.size, #[.string s0, .string s1], 9)] (wc.setCell ⟨bt, j, none⟩ (.string T)) := by
              have q := s5.set 0 rfl j (.string T)
              rw [HCT.out] at q
              exact q
            have HTo : Hid (T = S.extract 0 c ++ O.extract c 256) := by show _ = _; rw [HTT.out]; unfold tornOf; rw [hOs]
            rw [← HTo.out]
            go_upto_region 23 with fail
            clear HTo HTT HCT
            generalize hM3 : chM t0 t1 = M3 at *
            generalize hE3 : chE t0 t1 = e3 at *
            clear hM3 hE3 u0 u1 f0 f1 s5 H5 tj fj
            generalize wc.setCell ⟨bt, j, none⟩ (.string T) = W6 at *
            obtain ⟨z0, z1, z2, z3⟩ := M3
            simp only at HT2 C2
            have s6d : Bkd w [(bt, #[.string (t0), .string (t1)], 9), (wr.heap.size, #[.int .i64 ((k : Int) + 1), .int .i64 x1, .int .i64 x2, .int .i64 x3], 23), (w1.heap.size, #[.string s0, .string s1], 9)] W6.drew := s6.over ((Below.refl _ _).drew)
            have z6 := s6.new #[.int .i64 0, .int .i64 0, .int .i64 0, .int .i64 0] 23
            have z6d := z6.over ((Below.refl _ _).drew)
            have r0 := cells2 (s6.bks.at_ 0 rfl)
            have r1 := cells2 (s6d.bks.at_ 0 rfl)
            have r2 := cells2 (z6d.bks.at_ 1 rfl)
            have HNZ := Lib.hid (show ∀ l W, Bkd w l W → _ from fun l W q => q.new #[.int .i64 z0, .int .i64 z1, .int .i64 z2, .int .i64 z3] 23)
            have HN0 := Lib.hid (show ∀ l W, Bkd w l W → _ from fun l W q => q.new #[.int .i64 0, .int .i64 0, .int .i64 0, .int .i64 0] 23)
            have FF := Lib.hid (show ∀ b0 l W, Bkd w ((b0, #[.int .i64 0, .int .i64 0, .int .i64 0, .int .i64 0], 23) :: l) W → ∀ a0 a1 a2 a3, _ from fun b0 l W q a0 a1 a2 a3 => q.fill0 a0 a1 a2 a3)
            go_cut [15, 16] from 36 to 173 (fun x f W => ∃ bx, x = .pointer (some ⟨bx, 0, none⟩) ∧ f = .int .i64 e3 ∧ Hid (Bkd w [(bx, #[.int .i64 z0, .int .i64 z1, .int .i64 z2, .int .i64 z3], 23), (bt, #[.string (t0), .string (t1)], 9), (wr.heap.size, #[.int .i64 ((k : Int) + 1), .int .i64 x1, .int .i64 x2, .int .i64 x3], 23), (w1.heap.size, #[.string s0, .string s1], 9)] W))
            case first =>
              go_region_held3 (fun W => W.cell? ⟨bt, 0, none⟩ = some (.string (t0)) ∧ W.cell? ⟨bt, 1, none⟩ = some (.string (t1))) (assumption)
                ((first
                  | (go_at_call 15; (with_reducible refine (C2 _).out.mono ?_); rintro e w7 ⟨rfl, hb⟩; first | (have q7 := s6d.over hb; have s7 := HNZ.out _ _ q7; have r3 := cells2 (q7.bks.at_ 0 rfl); have r4 := cells2 ((HN0.out _ _ q7).bks.at_ 1 rfl); have r5 := cells2 (s7.bks.at_ 1 rfl)) | (have q7 := z6d.over hb; obtain ⟨k0, k1, k2, k3⟩ := cells4 (q7.bks.at_ 0 rfl); obtain ⟨k4, k5, k6, k7⟩ := free4 (q7.bks.at_ 0 rfl); have s7 := FF.out _ _ _ q7 (.int .i64 z0) (.int .i64 z1) (.int .i64 z2) (.int .i64 z3); have r3 := cells2 (q7.bks.at_ 1 rfl); have r4 := cells2 (s7.bks.at_ 1 rfl)))))
              all_goals
                go_wp2_with fail
                go_meet
                exact ⟨_, rfl, rfl, Lib.hid s7⟩
            case rest =>
              obtain ⟨bx, rfl, rfl, H8⟩ := hcut
              clear s6 s6d z6 z6d r0 r1 r2 HNZ C2
              have s8 := H8.out
              go_upto_region 24 with fail
              go_cut [150] from 36 to 173 (fun q W => q = .bool false ∧ W = wc)
              case first =>
                have HM8 := Lib.hid (And.intro (cells4 (s8.bks.at_ 0 rfl)) (cells4 (s8.bks.at_ 2 rfl)))
                clear s8 H8 C3
                by_cases hTS : T = S
                · obtain ⟨hm, he⟩ := HT2.out.1 hTS
                  obtain rfl : z0 = (k : Int) + 1 := congrArg Mt.tx hm
                  obtain rfl : z1 = x1 := congrArg Mt.root hm
                  obtain rfl : z2 = x2 := congrArg Mt.free hm
                  obtain rfl : z3 = x3 := congrArg Mt.pages hm
                  have tb := same_true hTS
                  have tn : (T.toList != S.toList) = false := by rw [bne, tb]; rfl
                  obtain ⟨⟨a0, a1, a2, a3⟩, m0, m1, m2, m3⟩ := HM8.out
                  clear hTS hm HT2 HM8
                  subst he
                  go_wp2_with fail
                  go_meet
                  exact ⟨rfl, rfl⟩
                · have tb := same_false hTS
                  have tn : (T.toList != S.toList) = true := by rw [bne, tb]; rfl
                  by_cases hk0 : k = 0
                  · have he := HT2.out.2.1 hTS hk0
                    have kz : ((k : Int) == 0) = true := by simp; omega
                    have kg : decide ((0 : Int) < (k : Int)) = false := decide_eq_false (by omega)
                    have kg' : decide (0 < k) = false := decide_eq_false (by omega)
                    have kz' : (k == 0) = true := by simp; omega
                    obtain ⟨⟨a0, a1, a2, a3⟩, m0, m1, m2, m3⟩ := HM8.out
                    clear hTS hk0 HT2 HM8 kw
                    subst he
                    go_wp2_with fail
                    go_meet
                    exact ⟨rfl, rfl⟩
                  · obtain ⟨hm, he⟩ := HT2.out.2.2 hTS (by omega)
                    obtain rfl : z0 = (k : Int) := hm
                    have kz : ((k : Int) == 0) = false := by simp; omega
                    have kg : decide ((0 : Int) < (k : Int)) = true := decide_eq_true (by omega)
                    have kg' : decide (0 < k) = true := decide_eq_true (by omega)
                    have kz' : (k == 0) = false := by simp; omega
                    obtain ⟨⟨a0, a1, a2, a3⟩, m0, m1, m2, m3⟩ := HM8.out
                    clear hTS hk0 HT2 HM8 kw
                    subst he
                    go_wp2_with fail
                    go_meet
                    exact ⟨rfl, rfl⟩
              case rest =>
                obtain ⟨rfl, rfl⟩ := hcut
                clear HT2 hS hOs
                obtain ⟨d0, d1⟩ := cells2 (s8.bks.at_ 3 rfl)
                obtain ⟨f0, f1⟩ := free2 (s8.bks.at_ 3 rfl)
                have dj := (cell_at (s8.bks.at_ 3 rfl) j).trans HCS.out
                have fj := free_at (s8.bks.at_ 3 rfl) j
                have s9 : Bkd w [(bx, #[.int .i64 z0, .int .i64 z1, .int .i64 z2, .int .i64 z3], 23), (bt, #[.string t0, .string t1], 9), (wr.heap.size, #[.int .i64 ((k : Int) + 1), .int .i64 x1, .int .i64 x2, .int .i64 x3], 23), (w1.heap.size, #[.string n0, .string n1], 9)] (wc.setCell ⟨w1.heap.size, j, none⟩ (.string S)) := by
                  have q := s8.set 3 rfl j (.string S)
                  rw [HCN.out] at q
                  exact q
                go_upto_region 28 with fail
                clear d0 d1 f0 f1 s8 H8 dj fj
                generalize wc.setCell ⟨w1.heap.size, j, none⟩ (.string S) = W9 at *
                have s9d := s9.over ((Below.refl _ _).drew)
                have z9 := s9.new #[.int .i64 0, .int .i64 0, .int .i64 0, .int .i64 0] 23
                have z9d := z9.over ((Below.refl _ _).drew)
                have r0 := cells2 (s9.bks.at_ 3 rfl)
                have r1 := cells2 (s9d.bks.at_ 3 rfl)
                have r2 := cells2 (z9d.bks.at_ 4 rfl)
                have HNM := Lib.hid (show ∀ l W, Bkd w l W → _ from fun l W q => q.new #[.int .i64 ((k : Int) + 1), .int .i64 x1, .int .i64 x2, .int .i64 x3] 23)
                go_cut [17, 18] from 36 to 173 (fun y g W => ∃ bY, y = .pointer (some ⟨bY, 0, none⟩) ∧ g = .int .i64 0 ∧ Hid (Bkd w [(bY, #[.int .i64 ((k : Int) + 1), .int .i64 x1, .int .i64 x2, .int .i64 x3], 23), (bx, #[.int .i64 z0, .int .i64 z1, .int .i64 z2, .int .i64 z3], 23), (bt, #[.string (t0), .string (t1)], 9), (wr.heap.size, #[.int .i64 ((k : Int) + 1), .int .i64 x1, .int .i64 x2, .int .i64 x3], 23), (w1.heap.size, #[.string (n0), .string (n1)], 9)] W))
                case first =>
                  go_region_held3 (fun W => W.cell? ⟨w1.heap.size, 0, none⟩ = some (.string (n0)) ∧ W.cell? ⟨w1.heap.size, 1, none⟩ = some (.string (n1))) (assumption)
                    ((first
                      | (go_at_call 15; (with_reducible refine (C3 _).out.mono ?_); rintro e w8 ⟨rfl, hb⟩; first | (have q8 := s9d.over hb; have s10 := HNM.out _ _ q8; have r3 := cells2 (q8.bks.at_ 3 rfl); have r4 := cells2 ((HN0.out _ _ q8).bks.at_ 4 rfl); have r5 := cells2 (s10.bks.at_ 4 rfl)) | (have q8 := z9d.over hb; obtain ⟨k0, k1, k2, k3⟩ := cells4 (q8.bks.at_ 0 rfl); obtain ⟨k4, k5, k6, k7⟩ := free4 (q8.bks.at_ 0 rfl); have s10 := FF.out _ _ _ q8 (.int .i64 ((k : Int) + 1)) (.int .i64 x1) (.int .i64 x2) (.int .i64 x3); have r3 := cells2 (q8.bks.at_ 4 rfl); have r4 := cells2 (s10.bks.at_ 4 rfl)))))
                  all_goals
                    go_wp2_with fail
                    go_meet
                    exact ⟨_, rfl, rfl, Lib.hid s10⟩
                case rest =>
                  obtain ⟨bY, rfl, rfl, H11⟩ := hcut
                  clear s9 s9d z9 z9d r0 r1 r2 HNM HN0 FF C3
                  have s11 := H11.out
                  obtain ⟨a0, a1, a2, a3⟩ := cells4 (s11.bks.at_ 0 rfl)
                  obtain ⟨m0, m1, m2, m3⟩ := cells4 (s11.bks.at_ 3 rfl)
                  have s12 : SlotsAt w w1.heap.size (n0) (n1) wc := ⟨s11.bks.sub (fun q hq => by simp at hq ⊢; exact .inr (.inr (.inr (.inr hq)))), by simp⟩
                  have HS12 := Lib.hid s12
                  clear s11 s12 H11
                  go_wp2
                  go_roundg (l.length - (i + 1))
                  case measure => omega
                  case rel => exact ⟨i + 1, k + 1, _, _, by omega, by go_num, by go_num, by omega, by omega, HN3, HS12⟩
      · rw [decide_eq_false hok] at V
        clear hok
        unfold Mt.v Mt.cells at *
        go_wp2_with (go_at_call 10; (with_reducible refine (V _).out.mono ?_); rintro e w2 ⟨rfl, hb2⟩; have s2 := HS1.out.over hb2; have s3 : SlotsAt w w1.heap.size s0 s1 w2 := ⟨s2.bks.sub (fun x hx => by simp at hx ⊢; exact .inr hx), by simp⟩; have HS3 := Lib.hid s3; clear s2 s3 hb2)
        go_roundg (l.length - (i + 1))
        case measure => omega
        case rel => exact ⟨i + 1, k, s0, s1, by omega, by go_num, rfl, by omega, by omega, HT, HS3⟩
    · have b2 : decide ((i : Int) < (l.length : Int)) = false := decide_eq_false (by omega)
      have b2' : decide (i < l.length) = false := decide_eq_false hil
      go_wp2
      go_ret
      exact ⟨rfl, HS.out.bks.below⟩

theorem turns_walk (w : World) (v : Value) (l : List Mt) (hl : MetasIn w v l) (c : Int) :
    Calls Try.prog 4 #[v, .int .i64 c] w fun r w' => r = .returned (.bool true) ∧ Below w.heap.size w w' := by
  by_cases h : l.length ≤ 30 ∧ 0 ≤ c ∧ c ≤ 256
  · obtain ⟨h1, h2, h3⟩ := h
    obtain ⟨c, rfl⟩ := Int.eq_ofNat_of_zero_le h2
    exact turns_in w v l hl h1 c (by omega)
  · obtain ⟨a, cp, rfl, _, _⟩ := hl
    exact turns_skip w a l.length cp c h

end Go.Proofs.Ytnmklhajpcnkoaa.P6
