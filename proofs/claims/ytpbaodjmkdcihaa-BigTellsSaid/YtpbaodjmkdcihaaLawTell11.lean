/-
  P1101, P1102: the walk of the statement BigTells.
-/
import Derived.Test.YtpbaodjmkdcihaaN11
import Derived.Deep.CutRange
namespace Go.Proofs.Ytpbaodjmkdcihaa.P11
open Go Go.RowKit Go.Lib Go.Proofs.Ytpbaodjmkdcihaa.PK
open Go.Proofs.Ytpbaodjmkdcihaa.P0 (same_true same_false)

/-- the law's two boxes, and the pages that were laid -/
structure TS (w0 : World) (bl bo : Nat) (a : Option Addr) (c : Nat) (L : List Pg) (lost : Int) (W : World) : Prop where
  cl : W.cell? ⟨bl, 0, none⟩ = some (.slice a L.length c)
  co : W.cell? ⟨bo, 0, none⟩ = some (.int .i64 lost)
  bl_ : bl < W.heap.size
  bo_ : bo < W.heap.size
  pg : PgsIn W (.slice a L.length c) L
  below : Below w0.heap.size w0 W
theorem TS.over {w0 : World} {bl bo : Nat} {a : Option Addr} {c : Nat} {L : List Pg} {lost : Int} {W W' : World} (h : TS w0 bl bo a c L lost W) (k : Below W.heap.size W W') : TS w0 bl bo a c L lost W' :=
  ⟨(k.cell (p := ⟨bl, 0, none⟩) h.bl_).trans h.cl, (k.cell (p := ⟨bo, 0, none⟩) h.bo_).trans h.co, Nat.lt_of_lt_of_le h.bl_ k.size, Nat.lt_of_lt_of_le h.bo_ k.size, h.pg.below k, thenBelow h.below k⟩
theorem TS.drewN {w0 : World} {bl bo : Nat} {a : Option Addr} {c : Nat} {L : List Pg} {lost : Int} {W : World} (h : TS w0 bl bo a c L lost W) (n : Nat) : TS w0 bl bo a c L lost (W.drewN n) := h.over (drewN_below W n)
theorem TS.start {w w2 : World} {a : Option Addr} {c : Nat} {L : List Pg} {lost : Int} (hp : PgsIn w2 (.slice a L.length c) L) (h : Below (w.alloc (.cells #[.int .i64 lost] 3)).heap.size (w.alloc (.cells #[.int .i64 lost] 3)) w2) : TS w w2.heap.size w.heap.size a c L lost (w2.alloc (.cells #[.slice a L.length c] 23)) := by
  have hz : w.heap.size < w2.heap.size := by have := h.size; simp at this; omega
  refine ⟨by rw [cell_at (new_at w2 _ _)]; rfl, ?_, by simp, by simp; omega, hp.below (below_new _ _), grow (thenBelow (below_new w _) h) _⟩
  rw [(below_new w2 _).cell (p := ⟨w.heap.size, 0, none⟩) hz, h.cell (p := ⟨w.heap.size, 0, none⟩) (by simp), cell_at (new_at w _ _)]
  rfl

set_option maxRecDepth 100000 in
set_option maxHeartbeats 16000000 in
theorem tells_walk (w : World) (value : ByteArray) (first tx n lost : Int) (ref : ByteArray) (hF : first ≤ 9223372036854775807) :
    Calls Try.prog 3 #[.string value, .int .i64 first, .int .i64 tx, .int .i64 n, .int .i64 lost, .string ref] w fun e w' => e = .returned (.bool true) ∧ Below w.heap.size w w' := by
  have HA := Lib.hid (fun w => alive_any w)
  have HB0 : Hid (Below w.heap.size w (w.alloc (.cells #[.int .i64 lost] 3))) := below_new _ _
  by_cases h1 : value.size ≤ 3000 ∧ ref.size ≤ 100
  · obtain ⟨h1, h2⟩ := h1
    have b1 : decide ((3000 : Int) < (value.size : Int)) = false := decide_eq_false (by omega)
    have b1' : decide (3000 < value.size) = false := decide_eq_false (by omega)
    have b2 : decide ((100 : Int) < (ref.size : Int)) = false := decide_eq_false (by omega)
    have b2' : decide (100 < ref.size) = false := decide_eq_false (by omega)
    have HL := Lib.hid (fun W => lay_any W value first tx (by omega) hF)
    have HL2 := Lib.hid (fun W => rlay_any W value first tx (by omega))
    have hcase := layB_cases value first tx
    have hNL : (layB value first tx).1.length ≤ 20 := by
      rcases hcase with e | ⟨e, -⟩
      · rw [e]; simp
      · rw [e, pagesB_length]; unfold needN; omega
    have HC := Lib.hid hcase
    clear hcase
    obtain ⟨⟨L, ev⟩, hlay⟩ : ∃ q, q = layB value first tx := ⟨_, rfl⟩
    rw [← hlay] at HL HL2 HC hNL
    simp only at HL HL2 hNL
    have HR := Lib.hid (fun W => ref_any W first n)
    have HR2 := Lib.hid (fun W => rRef_any W first n)
    generalize refB first n = q at HR HR2
    obtain ⟨rs, rg⟩ := q
    simp only at HR HR2
    have HU := Lib.hid (fun W => unref_any W ref)
    have HU2 := Lib.hid (fun W => rUnref_any W ref)
    have HI := Lib.hid (fun W => ids_any W ref)
    have hu := unrefB_cases ref
    obtain ⟨⟨ua, un, ue⟩, hU⟩ : ∃ q, q = unrefB ref := ⟨_, rfl⟩
    obtain ⟨I, hI⟩ : ∃ I, I = idsB ref := ⟨_, rfl⟩
    rw [← hU, ← hI] at hu HI
    rw [← hU] at HU HU2
    simp only at HU HU2 HI
    have hIl : I.length ≤ 20 := by
      rcases hu with ⟨a, m, e, g1, g2, g3, g4⟩ | ⟨e, g⟩
      · rw [g4, upB_length]; unfold needN; omega
      · rw [g]; simp
    have HUc := Lib.hid hu
    have HN := Lib.hid (fun W m hm => need_any W m hm)
    have HN2 := Lib.hid (fun W m hm => rNeed_any W m hm)
    have HRo := Lib.hid (fun W (m : Int) => ref_any W first m)
    clear hu hU hI hlay
    go_enter Try.func3, Try.ntmps3
    go_upto_region 9 with (first
      | (go_at_call 5; (with_reducible refine (HA.out _).mono ?_); rintro e w1 ⟨rfl, hb⟩; have K1 := Lib.hid hb; clear hb)
      | (go_at_call 6; (with_reducible refine (HL.out _).mono ?_); rintro e w2 ⟨v2, rfl, ho, hb⟩; have K2 := Lib.hid (thenBelow K1.out hb); have P2 := Lib.hid ho.pgs; obtain ⟨va, vc, rfl⟩ := ho.pgs.slice; have T2 := Lib.hid (TS.start P2.out K2.out); clear ho hb)
      | (go_at_call 7; (with_reducible refine (HL2.out _).mono ?_); rintro e w4 ⟨v4, rfl, ho, hb⟩; have T4 := Lib.hid (T2.out.over hb); have P4 := Lib.hid ho.pgs; obtain ⟨va4, vc4, rfl⟩ := ho.pgs.slice; clear ho hb)
      | (go_at_call 8; (with_reducible refine (HR.out _).mono ?_); rintro e w5 ⟨rfl, hb⟩; have T5 := Lib.hid (T4.out.over hb); have P5 := Lib.hid (P4.out.below hb); clear hb)
      | (go_at_call 9; (with_reducible refine (HR2.out _).mono ?_); rintro e w6 ⟨rfl, hb⟩; have T6 := Lib.hid (T5.out.over hb); have P6 := Lib.hid (P5.out.below hb); clear hb)
      | (go_at_call 10; (with_reducible refine (HU.out _).mono ?_); rintro e w7 ⟨rfl, hb⟩; have T7 := Lib.hid (T6.out.over hb); have P7 := Lib.hid (P6.out.below hb); clear hb)
      | (go_at_call 11; (with_reducible refine (HU2.out _).mono ?_); rintro e w8 ⟨rfl, hb⟩; have T8 := Lib.hid (T7.out.over hb); have P8 := Lib.hid (P7.out.below hb); have cl := T8.out.cl; clear hb))
    go_cut [143] from 91 to 143 (fun v W => v = .bool false ∧ Hid (TS w w2.heap.size w.heap.size va vc L lost W) ∧ Hid (PgsIn W (.slice va4 L.length vc4) L))
    case first =>
      clear HL HL2 HR HR2 HU HU2 HI HA HRo HUc HC P2 P4 P5 P6 P7 T2 T4 T5 T6 T7
      by_cases hn : n ≤ 100000
      · have hn' : ¬ 100000 < n := by omega
        go_wp2_with (first
          | (go_at_call 12; (with_reducible refine (HN.out _ _ (by omega)).mono ?_); rintro e w9 ⟨rfl, hb⟩; have T9 := Lib.hid (T8.out.over hb); have P9 := Lib.hid (P8.out.below hb); clear hb)
          | (go_at_call 13; (with_reducible refine (HN2.out _ _ (by omega)).mono ?_); rintro e w10 ⟨rfl, hb⟩; have T10 := Lib.hid (T9.out.over hb); have P10 := Lib.hid (P9.out.below hb); clear hb)
          | (go_at_call 12; (with_reducible refine (HN.out _ _ (by omega)).mono ?_); rintro e w11 ⟨rfl, hb⟩; have T11 := Lib.hid (T10.out.over hb); have P11 := Lib.hid (P10.out.below hb); clear hb)
          | (go_at_call 13; (with_reducible refine (HN2.out _ _ (by omega)).mono ?_); rintro e w12 ⟨rfl, hb⟩; have T12 := Lib.hid (T11.out.over hb); have P12 := Lib.hid (P11.out.below hb); clear hb))
        go_meet
        exact ⟨rfl, T12, P12⟩
      · have hn' : 100000 < n := by omega
        go_wp2_with (first
          | (go_at_call 12; (with_reducible refine (HN.out _ _ (by omega)).mono ?_); rintro e w9 ⟨rfl, hb⟩; have T9 := Lib.hid (T8.out.over hb); have P9 := Lib.hid (P8.out.below hb); clear hb)
          | (go_at_call 13; (with_reducible refine (HN2.out _ _ (by omega)).mono ?_); rintro e w10 ⟨rfl, hb⟩; have T10 := Lib.hid (T9.out.over hb); have P10 := Lib.hid (P9.out.below hb); clear hb)
          | (go_at_call 12; (with_reducible refine (HN.out _ _ (by omega)).mono ?_); rintro e w11 ⟨rfl, hb⟩; have T11 := Lib.hid (T10.out.over hb); have P11 := Lib.hid (P10.out.below hb); clear hb)
          | (go_at_call 13; (with_reducible refine (HN2.out _ _ (by omega)).mono ?_); rintro e w12 ⟨rfl, hb⟩; have T12 := Lib.hid (T11.out.over hb); have P12 := Lib.hid (P11.out.below hb); clear hb))
        go_meet
        exact ⟨rfl, T12, P12⟩
    case rest =>
      obtain ⟨rfl, HT, HP⟩ := hcut
      clear HL HL2 HR HR2 HU HU2 HN HB0 P2 P4 P5 P6 P7 P8 T2 T4 T5 T6 T7 T8 K1 K2 cl
      go_wp2
      have hl : w2.heap.size = w2.heap.size := rfl
      obtain ⟨bl, hbl⟩ : ∃ bl, bl = w2.heap.size := ⟨_, rfl⟩
      rw [← hbl] at HT ⊢
      clear hbl hl
      go_loopw [27] (fun vk wr => ∃ k : Nat, k ≤ L.length ∧ vk = .int .i64 k ∧ Hid (TS w bl w.heap.size va vc L lost wr) ∧ Hid (PgsIn wr (.slice va4 L.length vc4) L)) (fun vk _ => L.length - (RowKit.intOf vk).toNat)
      case atStart => exact ⟨0, Nat.zero_le _, rfl, HT, HP⟩
      case round =>
        clear HT HP
        obtain ⟨k, hk, rfl, HT, HP⟩ := hrel
        have cl := HT.out.cl
        by_cases hlt : k < L.length
        · obtain ⟨p, hp⟩ : ∃ p, L[k]? = some p := ⟨_, List.getElem?_eq_getElem hlt⟩
          obtain ⟨b, off, rfl, hc⟩ := HT.out.pg.at_ hp
          obtain ⟨b4, off4, rfl, hc4⟩ := HP.out.at_ hp
          obtain ⟨c0, c1, c2, c3⟩ := hc _ (Below.refl _ _)
          obtain ⟨d0, d1, d2, d3⟩ := hc4 _ (Below.refl _ _)
          have k1 : decide ((k : Int) < (L.length : Int)) = true := decide_eq_true (by omega)
          have k2 : (k : Int) < (L.length : Int) := by omega
          have k3 : (0 : Int) ≤ (k : Int) := by omega
          have HEp : ∀ w, (binOp .neq 33 (.agg #[.int .i64 p.k, .int .i64 p.id, .int .i64 p.tx, .string p.body]) (.agg #[.int .i64 p.k, .int .i64 p.id, .int .i64 p.tx, .string p.body])).run Try.prog w = .ok (.bool false) w := fun w => by
            have := page_neq w p p
            rw [Pg.same_self] at this
            exact this
          clear hc hc4 hp
          go_wp2
          go_quiet (fail)
          go_wp2
          go_roundw
          case rel => exact ⟨k + 1, by omega, by go_num, HT.out.drewN _, HP.out.below (drewN_below _ _)⟩
          case measure => simp [RowKit.intOf]; omega
        · have e9 : k = L.length := by omega
          subst e9
          have k1 : decide ((L.length : Int) < (L.length : Int)) = false := decide_eq_false (by omega)
          have HIk : Hid (∀ (j : Nat) (x : Int), I[j]? = some x → x = ua + (j : Nat) ∧ 0 ≤ ua ∧ ua < 4000) := fun j x hx => by
            rcases HUc.out with ⟨a, m, e, g1, g2, g3, g4⟩ | ⟨e, g⟩
            · simp only [Prod.mk.injEq] at e
              obtain ⟨rfl, -, -⟩ := e
              have hj := (List.getElem?_eq_some_iff.1 hx).1
              rw [g4, upB_length] at hj
              rw [g4, upB_at hj] at hx
              exact ⟨(Option.some.inj hx).symm, by omega, by omega⟩
            · rw [g] at hx
              simp at hx
          go_upto_region 18 with (go_at_call 15; (with_reducible refine (HI.out _).mono ?_); rintro e w13 ⟨v13, rfl, ho, hb⟩; have T13 := Lib.hid (HT.out.over hb); have I13 := Lib.hid ho.ns; obtain ⟨ia, ic, rfl⟩ := ho.ns.slice; clear ho hb)
          go_cut [187] from 165 to 187 (fun v W => v = .bool false ∧ Hid (TS w bl w.heap.size va vc L lost W) ∧ Hid (NsIn W (.slice ia I.length ic) I))
          case first =>
            rcases HUc.out with ⟨a, m, e, g1, g2, g3, g4⟩ | ⟨e, g⟩
            · simp only [Prod.mk.injEq] at e
              obtain ⟨rfl, rfl, rfl⟩ := e
              have hIN : (I.length : Int) = (needN m : Nat) := by rw [g4, upB_length]
              have m3 : ((I.length : Int) != (needN m : Nat)) = false := by simp [hIN]
              have HNm : Hid (∀ W, Calls Try.prog 13 #[.int .i64 m] W fun e w' => e = .returned (.int .i64 (needN m : Nat)) ∧ Below W.heap.size W w') := fun W => by
                have := HN2.out W m (by omega)
                rwa [needB_nat] at this
              generalize needN m = M at *
              clear HC HUc HIk HRo HN2 hIN g4
              go_wp2_with (go_at_call 13; (with_reducible refine (HNm.out _).mono ?_); rintro e w14 ⟨rfl, hb⟩; have T14 := Lib.hid (T13.out.over hb); have I14 := Lib.hid (I13.out.below hb); clear hb)
              go_meet
              exact ⟨rfl, T14, I14⟩
            · simp only [Prod.mk.injEq] at e
              obtain ⟨rfl, rfl, rfl⟩ := e
              subst g
              clear HC HUc HIk HRo HN2
              go_wp2
              go_meet
              exact ⟨rfl, T13, I13⟩
          case rest =>
            obtain ⟨rfl, HT2, HI2⟩ := hcut
            clear HT HP HI T13 I13 HN2 HUc
            go_wp2
            go_loopw [31] (fun vk wr => ∃ k : Nat, k ≤ I.length ∧ vk = .int .i64 k ∧ Hid (TS w bl w.heap.size va vc L lost wr) ∧ Hid (NsIn wr (.slice ia I.length ic) I)) (fun vk _ => I.length - (RowKit.intOf vk).toNat)
            case atStart => exact ⟨0, Nat.zero_le _, rfl, HT2, HI2⟩
            case round =>
              clear HT2 HI2
              obtain ⟨j, hj, rfl, HT, HI⟩ := hrel
              by_cases hlt : j < I.length
              · obtain ⟨x, hx⟩ : ∃ x, I[j]? = some x := ⟨_, List.getElem?_eq_getElem hlt⟩
                obtain ⟨hx1, hx2, hx3⟩ := HIk.out j x hx
                subst hx1
                obtain ⟨b, off, rfl, hc⟩ := HI.out.at_ hx
                have c0 := hc _ (Below.refl _ _)
                have q1 : decide ((j : Int) < (I.length : Int)) = true := decide_eq_true (by omega)
                have q2 : (j : Int) < (I.length : Int) := by omega
                have q3 : (0 : Int) ≤ (j : Int) := by omega
                have q4 : IntKind.i64.wrap (ua + (j : Int)) = ua + (j : Int) := by rw [IntKind.wrap_i64]; omega
                clear hc hx
                go_wp2
                go_roundw
                case rel => exact ⟨j + 1, by omega, by go_num, HT, HI⟩
                case measure => simp [RowKit.intOf]; omega
              · have e8 : j = I.length := by omega
                subst e8
                have q1 : decide ((I.length : Int) < (I.length : Int)) = false := decide_eq_false (by omega)
                clear HI HIk
                rcases HC.out with e | ⟨e, hok⟩
                · simp only [Prod.mk.injEq] at e
                  obtain ⟨rfl, rfl⟩ := e
                  clear HC HRo HA
                  go_wp2
                  go_ret
                  exact ⟨rfl, HT.out.below⟩
                · simp only [Prod.mk.injEq] at e
                  obtain ⟨hLe, rfl⟩ := e
                  obtain ⟨h0, hf2, hfN, ht0, ht1⟩ := hok
                  obtain ⟨f, rfl⟩ := Int.eq_ofNat_of_zero_le (show 0 ≤ first by omega)
                  have hLl : L.length = needN value.size := by rw [hLe, pagesB_length]
                  have hNp := needN_pos value.size
                  have HIds : ∀ (j : Nat) (p : Pg), L[j]? = some p → p.id = (f : Int) + (j : Nat) := by rw [hLe]; exact pagesB_ids
                  have HRd : Hid (∀ (lo : Int) (m : Nat), m ≤ value.size → ∀ W, TS w bl w.heap.size va vc L lo W → Calls Try.prog 16 #[.string (refT f m), .func (.func 14) #[] #[.pointer (some ⟨bl, 0, none⟩), .pointer (some ⟨w.heap.size, 0, none⟩)]] W fun e w' => e = .returned (.tuple #[.string (readF m (lostF L lo)).1, .int .i64 (readF m (lostF L lo)).2]) ∧ Below W.heap.size W w') := fun lo m hm W hW =>
                    law_read f m ⟨by omega, by omega, by omega, by omega⟩ (by rw [hLl]; unfold needN; omega) (by omega) HIds hW.pg hW.cl hW.co hW.bl_ hW.bo_
                  have HO : Hid (∀ m : Nat, m ≤ value.size → ∀ W, Calls Try.prog 8 #[.int .i64 f, .int .i64 m] W fun e w' => e = .returned (.tuple #[.string (refT f m), .int .i64 0]) ∧ Below W.heap.size W w') := fun m hm W => by
                    have := HRo.out W m
                    have e : refB f m = (refT f m, 0) := by unfold refB; rw [if_pos ⟨by omega, by omega, by omega, by omega⟩]; rfl
                    rw [e] at this
                    exact this
                  have HO1 := Lib.hid (HO.out value.size (Nat.le_refl _))
                  have hn1 := needN_pos value.size
                  clear HC HRo HA HIds hfN
                  by_cases hlo : 0 ≤ lost ∧ lost < (L.length : Int)
                  · obtain ⟨hl0, hl1⟩ := hlo
                    obtain ⟨k, rfl⟩ := Int.eq_ofNat_of_zero_le hl0
                    have e1 : readF value.size (lostF L (k : Int)) = (⟨#[]⟩, 25) := read_lost (k := k) (by omega) (by rw [lostF_hit]; decide)
                    have HRd1 := Lib.hid (HRd.out (k : Int) value.size (Nat.le_refl _))
                    rw [e1] at HRd1
                    generalize refT f value.size = R at *
                    have m1 : decide ((0 : Int) ≤ (k : Int)) = true := decide_eq_true hl0
                    have m2 : decide ((k : Int) < (L.length : Int)) = true := decide_eq_true hl1
                    clear e1 HRd HO hLe hLl
                    go_wp2_with (first
                      | (go_at_call 8; (with_reducible refine (HO1.out _).mono ?_); rintro e w14 ⟨rfl, hb⟩; have T14 := Lib.hid (HT.out.over hb); clear hb HO1)
                      | (go_at_call 16; (with_reducible refine (HRd1.out _ T14.out).mono ?_); rintro e w15 ⟨rfl, hb⟩; have T15 := Lib.hid (T14.out.over hb); have cl := T15.out.cl; have co := T15.out.co; clear hb HRd1))
                    go_ret
                    exact ⟨rfl, T15.out.below⟩
                  · have HF : ∀ k, k < needN value.size → lostF L lost k = (pageB value f tx k, 0) := fun k hk => by
                      rw [hLl] at hlo
                      rw [hLe]
                      exact lostF_not hlo k hk
                    have e1 : readF value.size (lostF L lost) = (value, 0) := read_all value f tx _ HF
                    have HRd1 := Lib.hid (HRd.out lost value.size (Nat.le_refl _))
                    rw [e1] at HRd1
                    have HO2 := Lib.hid (HO.out (value.size - 1) (Nat.sub_le _ _))
                    have HRd2 := Lib.hid (HRd.out lost (value.size - 1) (Nat.sub_le _ _))
                    have HLess : Hid ((value.size - 1) % 232 ≠ 0 → readF (value.size - 1) (lostF L lost) = (⟨#[]⟩, 25)) := fun h => read_less value f tx _ HF h
                    obtain ⟨⟨X, Y⟩, hq⟩ : ∃ q, q = readF (value.size - 1) (lostF L lost) := ⟨_, rfl⟩
                    rw [← hq] at HRd2 HLess
                    simp only at HRd2
                    clear e1 HRd HO hLe hLl HF hq
                    obtain ⟨c, m3, hc⟩ : ∃ c : Bool, (decide ((0 : Int) ≤ lost) = c) ∧ (c = true → decide (lost < (L.length : Int)) = false) := ⟨_, rfl, fun h => decide_eq_false (fun q => hlo ⟨of_decide_eq_true h, q⟩)⟩
                    by_cases hz : value.size = 0
                    · have hv : value = ⟨#[]⟩ := by
                        apply P0.text_ext
                        rw [List.eq_nil_of_length_eq_zero (l := value.data.toList) (by simpa using hz)]
                      subst hv
                      clear HLess hz hlo
                      have mx : max (-1 : Int) 0 = 0 := by decide
                      generalize refT f (ByteArray.size ⟨#[]⟩ - 1) = R2 at *
                      generalize refT f (ByteArray.size ⟨#[]⟩) = R at *
                      have HO1 : Hid (∀ W, Calls Try.prog 8 #[.int .i64 f, .int .i64 0] W fun e w' => e = .returned (.tuple #[.string R, .int .i64 0]) ∧ Below W.heap.size W w') := HO1.out
                      have HO2 : Hid (∀ W, Calls Try.prog 8 #[.int .i64 f, .int .i64 0] W fun e w' => e = .returned (.tuple #[.string R2, .int .i64 0]) ∧ Below W.heap.size W w') := HO2.out
                      cases c
                      · clear hc
                        go_wp2_with (first
                          | (go_at_call 8; (with_reducible refine (HO1.out _).mono ?_); rintro e w14 ⟨rfl, hb⟩; have T14 := Lib.hid (HT.out.over hb); clear hb HO1)
                          | (go_at_call 16; (with_reducible refine (HRd1.out _ T14.out).mono ?_); rintro e w15 ⟨rfl, hb⟩; have T15 := Lib.hid (T14.out.over hb); have cl := T15.out.cl; have co := T15.out.co; clear hb HRd1)
                          | (go_at_call 8; (with_reducible refine (HO2.out _).mono ?_); rintro e w16 ⟨rfl, hb⟩; have T16 := Lib.hid (T15.out.over hb); clear hb)
                          | (go_at_call 16; (with_reducible refine (HRd2.out _ T16.out).mono ?_); rintro e w17 ⟨rfl, hb⟩; have T17 := Lib.hid (T16.out.over hb); clear hb))
                        go_ret
                        exact ⟨rfl, T17.out.below⟩
                      · have m4 := hc rfl
                        clear hc
                        go_wp2_with (first
                          | (go_at_call 8; (with_reducible refine (HO1.out _).mono ?_); rintro e w14 ⟨rfl, hb⟩; have T14 := Lib.hid (HT.out.over hb); clear hb HO1)
                          | (go_at_call 16; (with_reducible refine (HRd1.out _ T14.out).mono ?_); rintro e w15 ⟨rfl, hb⟩; have T15 := Lib.hid (T14.out.over hb); have cl := T15.out.cl; have co := T15.out.co; clear hb HRd1)
                          | (go_at_call 8; (with_reducible refine (HO2.out _).mono ?_); rintro e w16 ⟨rfl, hb⟩; have T16 := Lib.hid (T15.out.over hb); clear hb)
                          | (go_at_call 16; (with_reducible refine (HRd2.out _ T16.out).mono ?_); rintro e w17 ⟨rfl, hb⟩; have T17 := Lib.hid (T16.out.over hb); clear hb))
                        go_ret
                        exact ⟨rfl, T17.out.below⟩
                    · have hne : value ≠ ⟨#[]⟩ := fun e => by rw [e] at hz; exact hz rfl
                      have v1 : (value.toList == (⟨#[]⟩ : ByteArray).toList) = false := same_false hne
                      have z1 : ((value.size - 1 : Nat) : Int) = (value.size : Int) - 1 := by omega
                      rw [z1] at HO2
                      have v2 : ¬ value.toList = [] := fun e => hne (P0.text_ext (by rw [← ByteArray.toList_eq, e]))
                      have z2 : IntKind.i64.wrap ((value.size : Int) - 1) = (value.size : Int) - 1 := by rw [IntKind.wrap_i64]; omega
                      have z3 : (0 : Int) ≤ (value.size : Int) - 1 := by omega
                      have z4 : ¬ (value.size : Int) - 1 < 0 := by omega
                      have mx : max ((value.size : Int) - 1) 0 = (value.size : Int) - 1 := by omega
                      generalize refT f (value.size - 1) = R2 at *
                      generalize refT f value.size = R at *
                      clear z1 hlo
                      by_cases hm : (value.size - 1) % 232 = 0
                      · have z5 : (((value.size : Int) - 1) % 232 == 0) = true := by rw [beq_iff_eq]; omega
                        clear HLess hm
                        cases c
                        · clear hc
                          go_wp2_with (first
                            | (go_at_call 8; (with_reducible refine (HO1.out _).mono ?_); rintro e w14 ⟨rfl, hb⟩; have T14 := Lib.hid (HT.out.over hb); clear hb HO1)
                            | (go_at_call 16; (with_reducible refine (HRd1.out _ T14.out).mono ?_); rintro e w15 ⟨rfl, hb⟩; have T15 := Lib.hid (T14.out.over hb); have cl := T15.out.cl; have co := T15.out.co; clear hb HRd1)
                            | (go_at_call 8; (with_reducible refine (HO2.out _).mono ?_); rintro e w16 ⟨rfl, hb⟩; have T16 := Lib.hid (T15.out.over hb); clear hb)
                            | (go_at_call 16; (with_reducible refine (HRd2.out _ T16.out).mono ?_); rintro e w17 ⟨rfl, hb⟩; have T17 := Lib.hid (T16.out.over hb); clear hb))
                          go_ret
                          exact ⟨rfl, T17.out.below⟩
                        · have m4 := hc rfl
                          clear hc
                          go_wp2_with (first
                            | (go_at_call 8; (with_reducible refine (HO1.out _).mono ?_); rintro e w14 ⟨rfl, hb⟩; have T14 := Lib.hid (HT.out.over hb); clear hb HO1)
                            | (go_at_call 16; (with_reducible refine (HRd1.out _ T14.out).mono ?_); rintro e w15 ⟨rfl, hb⟩; have T15 := Lib.hid (T14.out.over hb); have cl := T15.out.cl; have co := T15.out.co; clear hb HRd1)
                            | (go_at_call 8; (with_reducible refine (HO2.out _).mono ?_); rintro e w16 ⟨rfl, hb⟩; have T16 := Lib.hid (T15.out.over hb); clear hb)
                            | (go_at_call 16; (with_reducible refine (HRd2.out _ T16.out).mono ?_); rintro e w17 ⟨rfl, hb⟩; have T17 := Lib.hid (T16.out.over hb); clear hb))
                          go_ret
                          exact ⟨rfl, T17.out.below⟩
                      · have z5 : (((value.size : Int) - 1) % 232 == 0) = false := by rw [beq_eq_false_iff_ne]; omega
                        have hX := HLess.out hm
                        simp only [Prod.mk.injEq] at hX
                        obtain ⟨rfl, rfl⟩ := hX
                        clear HLess hm
                        cases c
                        · clear hc
                          go_wp2_with (first
                            | (go_at_call 8; (with_reducible refine (HO1.out _).mono ?_); rintro e w14 ⟨rfl, hb⟩; have T14 := Lib.hid (HT.out.over hb); clear hb HO1)
                            | (go_at_call 16; (with_reducible refine (HRd1.out _ T14.out).mono ?_); rintro e w15 ⟨rfl, hb⟩; have T15 := Lib.hid (T14.out.over hb); have cl := T15.out.cl; have co := T15.out.co; clear hb HRd1)
                            | (go_at_call 8; (with_reducible refine (HO2.out _).mono ?_); rintro e w16 ⟨rfl, hb⟩; have T16 := Lib.hid (T15.out.over hb); clear hb)
                            | (go_at_call 16; (with_reducible refine (HRd2.out _ T16.out).mono ?_); rintro e w17 ⟨rfl, hb⟩; have T17 := Lib.hid (T16.out.over hb); clear hb))
                          go_ret
                          exact ⟨rfl, T17.out.below⟩
                        · have m4 := hc rfl
                          clear hc
                          go_wp2_with (first
                            | (go_at_call 8; (with_reducible refine (HO1.out _).mono ?_); rintro e w14 ⟨rfl, hb⟩; have T14 := Lib.hid (HT.out.over hb); clear hb HO1)
                            | (go_at_call 16; (with_reducible refine (HRd1.out _ T14.out).mono ?_); rintro e w15 ⟨rfl, hb⟩; have T15 := Lib.hid (T14.out.over hb); have cl := T15.out.cl; have co := T15.out.co; clear hb HRd1)
                            | (go_at_call 8; (with_reducible refine (HO2.out _).mono ?_); rintro e w16 ⟨rfl, hb⟩; have T16 := Lib.hid (T15.out.over hb); clear hb)
                            | (go_at_call 16; (with_reducible refine (HRd2.out _ T16.out).mono ?_); rintro e w17 ⟨rfl, hb⟩; have T17 := Lib.hid (T16.out.over hb); clear hb))
                          go_ret
                          exact ⟨rfl, T17.out.below⟩
  · obtain ⟨d1, hd1⟩ : ∃ d, d = decide ((3000 : Int) < (value.size : Int)) := ⟨_, rfl⟩
    obtain ⟨d2, hd2⟩ : ∃ d, d = decide ((100 : Int) < (ref.size : Int)) := ⟨_, rfl⟩
    have b1 : decide ((3000 : Int) < (value.size : Int)) = d1 := hd1.symm
    have b1' : decide (3000 < value.size) = d1 := by rw [hd1]; exact decide_eq_decide.2 (by omega)
    have b2 : decide ((100 : Int) < (ref.size : Int)) = d2 := hd2.symm
    have b2' : decide (100 < ref.size) = d2 := by rw [hd2]; exact decide_eq_decide.2 (by omega)
    have hd : d1 = false → d2 = false → False := fun e1 e2 => by
      rw [hd1, decide_eq_false_iff_not] at e1
      rw [hd2, decide_eq_false_iff_not] at e2
      omega
    clear hd1 hd2 h1
    cases d1 <;> cases d2
    · exact (hd rfl rfl).elim
    all_goals
      clear hd
      go_enter Try.func3, Try.ntmps3
      go_wp2_with (go_at_call 5; (with_reducible refine (HA.out _).mono ?_); rintro e w1 ⟨rfl, hb⟩; have K1 := Lib.hid (thenBelow HB0.out hb); clear hb)
      go_ret
      exact ⟨rfl, K1.out⟩

end Go.Proofs.Ytpbaodjmkdcihaa.P11
