/-
  P1101, P1102: the walk of the statement BigParts.
-/
import Derived.Test.YtpbaodjmkdcihaaN11
import Derived.Deep.CutRange
namespace Go.Proofs.Ytpbaodjmkdcihaa.P11
open Go Go.RowKit Go.Lib Go.Proofs.Ytpbaodjmkdcihaa.PK
open Go.Proofs.Ytpbaodjmkdcihaa.P0 (same_true same_false size_app)

set_option maxRecDepth 100000 in
set_option maxHeartbeats 8000000 in
theorem parts_bad (w : World) (value : ByteArray) (first tx : Int) (hF : first ≤ 9223372036854775807) (h1 : value.size ≤ 2000) (h : ¬ layOk value first tx) :
    Calls Try.prog 4 #[.string value, .int .i64 first, .int .i64 tx] w fun e w' => e = .returned (.bool true) ∧ Below w.heap.size w w' := by
  have HA := Lib.hid (fun w => alive_any w)
  have b1 : decide ((2000 : Int) < (value.size : Int)) = false := decide_eq_false (by omega)
  have b1' : decide (2000 < value.size) = false := decide_eq_false (by omega)
  have HL : Hid (∀ W, Calls Try.prog 6 #[.string value, .int .i64 first, .int .i64 tx] W fun e w' => ∃ v, e = .returned (.tuple #[v, .int .i64 1]) ∧ OwnP W.heap.size w' v [] ∧ Below W.heap.size W w') := fun W => by
    have := lay_any W value first tx (by omega) hF
    have e : layB value first tx = ([], 1) := if_neg h
    rw [e] at this
    exact this
  have HNd : Hid (∀ W, Calls Try.prog 12 #[.int .i64 value.size] W fun e w' => e = .returned (.int .i64 (needN value.size : Nat)) ∧ Below W.heap.size W w') := fun W => by
    have := need_any W value.size (by omega)
    rwa [needB_nat] at this
  have hN : needN value.size ≤ 10 := by unfold needN; omega
  have hno : ¬ (2 ≤ first ∧ first + (needN value.size : Nat) ≤ 4000 ∧ 0 ≤ tx ∧ tx ≤ 1099511627776) := fun q => h ⟨h1, q⟩
  generalize needN value.size = N at *
  clear h
  by_cases q1 : first < 2
  · have k1 : decide (first < 2) = true := decide_eq_true q1
    clear hno
    go_enter Try.func4, Try.ntmps4
    go_wp2_with (first
      | (go_at_call 5; (with_reducible refine (HA.out _).mono ?_); rintro e w1 ⟨rfl, hb⟩; have K1 := Lib.hid hb; clear hb)
      | (go_at_call 6; (with_reducible refine (HL.out _).mono ?_); rintro e w2 ⟨v2, rfl, ho, hb⟩; have K2 := Lib.hid (thenBelow K1.out hb); obtain ⟨va, vc, rfl⟩ := (show ∃ a c, v2 = .slice a 0 c from ho.pgs.slice); clear ho hb)
      | (go_at_call 12; (with_reducible refine (HNd.out _).mono ?_); rintro e w3 ⟨rfl, hb⟩; have K3 := Lib.hid (thenBelow K2.out hb); clear hb))
    go_ret
    exact ⟨rfl, K2.out⟩
  · have k1 : decide (first < 2) = false := decide_eq_false q1
    obtain ⟨s, hs⟩ : ∃ s, IntKind.i64.wrap (first + (N : Int)) = s := ⟨_, rfl⟩
    have hsw : first < 4000 → s = first + (N : Int) := fun q => by rw [← hs, IntKind.wrap_i64]; omega
    by_cases q2 : 4000 < s
    · have k2 : decide ((4000 : Int) < s) = true := decide_eq_true q2
      clear hno hsw
      go_enter Try.func4, Try.ntmps4
      go_wp2_with (first
        | (go_at_call 5; (with_reducible refine (HA.out _).mono ?_); rintro e w1 ⟨rfl, hb⟩; have K1 := Lib.hid hb; clear hb)
        | (go_at_call 6; (with_reducible refine (HL.out _).mono ?_); rintro e w2 ⟨v2, rfl, ho, hb⟩; have K2 := Lib.hid (thenBelow K1.out hb); obtain ⟨va, vc, rfl⟩ := (show ∃ a c, v2 = .slice a 0 c from ho.pgs.slice); clear ho hb)
        | (go_at_call 12; (with_reducible refine (HNd.out _).mono ?_); rintro e w3 ⟨rfl, hb⟩; have K3 := Lib.hid (thenBelow K2.out hb); clear hb))
      go_ret
      exact ⟨rfl, K3.out⟩
    · have k2 : decide ((4000 : Int) < s) = false := decide_eq_false q2
      by_cases q3 : 4000 ≤ first
      · have k3 : decide ((4000 : Int) ≤ first) = true := decide_eq_true q3
        clear hno hsw
        go_enter Try.func4, Try.ntmps4
        go_wp2_with (first
          | (go_at_call 5; (with_reducible refine (HA.out _).mono ?_); rintro e w1 ⟨rfl, hb⟩; have K1 := Lib.hid hb; clear hb)
          | (go_at_call 6; (with_reducible refine (HL.out _).mono ?_); rintro e w2 ⟨v2, rfl, ho, hb⟩; have K2 := Lib.hid (thenBelow K1.out hb); obtain ⟨va, vc, rfl⟩ := (show ∃ a c, v2 = .slice a 0 c from ho.pgs.slice); clear ho hb)
          | (go_at_call 12; (with_reducible refine (HNd.out _).mono ?_); rintro e w3 ⟨rfl, hb⟩; have K3 := Lib.hid (thenBelow K2.out hb); clear hb))
        go_ret
        exact ⟨rfl, K3.out⟩
      · have k3 : decide ((4000 : Int) ≤ first) = false := decide_eq_false q3
        have hse := hsw (by omega)
        have hs2 : IntKind.i64.wrap (first + (N : Int)) = first + (N : Int) := by rw [hs, hse]
        have k2' : decide ((4000 : Int) < first + (N : Int)) = false := by rw [← hse]; exact k2
        by_cases q4 : tx < 0
        · have k4 : decide (tx < 0) = true := decide_eq_true q4
          clear hno hsw hs hse k2 q2
          go_enter Try.func4, Try.ntmps4
          go_wp2_with (first
            | (go_at_call 5; (with_reducible refine (HA.out _).mono ?_); rintro e w1 ⟨rfl, hb⟩; have K1 := Lib.hid hb; clear hb)
            | (go_at_call 6; (with_reducible refine (HL.out _).mono ?_); rintro e w2 ⟨v2, rfl, ho, hb⟩; have K2 := Lib.hid (thenBelow K1.out hb); obtain ⟨va, vc, rfl⟩ := (show ∃ a c, v2 = .slice a 0 c from ho.pgs.slice); clear ho hb)
            | (go_at_call 12; (with_reducible refine (HNd.out _).mono ?_); rintro e w3 ⟨rfl, hb⟩; have K3 := Lib.hid (thenBelow K2.out hb); clear hb))
          go_ret
          exact ⟨rfl, K3.out⟩
        · have k4 : decide (tx < 0) = false := decide_eq_false q4
          have k5 : decide ((1099511627776 : Int) < tx) = true := decide_eq_true (by omega)
          clear hno hsw hs hse k2 q2
          go_enter Try.func4, Try.ntmps4
          go_wp2_with (first
            | (go_at_call 5; (with_reducible refine (HA.out _).mono ?_); rintro e w1 ⟨rfl, hb⟩; have K1 := Lib.hid hb; clear hb)
            | (go_at_call 6; (with_reducible refine (HL.out _).mono ?_); rintro e w2 ⟨v2, rfl, ho, hb⟩; have K2 := Lib.hid (thenBelow K1.out hb); obtain ⟨va, vc, rfl⟩ := (show ∃ a c, v2 = .slice a 0 c from ho.pgs.slice); clear ho hb)
            | (go_at_call 12; (with_reducible refine (HNd.out _).mono ?_); rintro e w3 ⟨rfl, hb⟩; have K3 := Lib.hid (thenBelow K2.out hb); clear hb))
          go_ret
          exact ⟨rfl, K3.out⟩

set_option maxRecDepth 100000 in
set_option maxHeartbeats 8000000 in
theorem parts_ok (w : World) (value : ByteArray) (first tx : Int) (h1 : value.size ≤ 2000) (h : layOk value first tx) :
    Calls Try.prog 4 #[.string value, .int .i64 first, .int .i64 tx] w fun e w' => e = .returned (.bool true) ∧ Below w.heap.size w w' := by
  have HA := Lib.hid (fun w => alive_any w)
  have b1 : decide ((2000 : Int) < (value.size : Int)) = false := decide_eq_false (by omega)
  have b1' : decide (2000 < value.size) = false := decide_eq_false (by omega)
  have hl : layB value first tx = (pagesB value first tx (needN value.size), 0) := if_pos h
  obtain ⟨-, hf2, hfN, ht0, ht1⟩ := h
  obtain ⟨f, rfl⟩ := Int.eq_ofNat_of_zero_le (show 0 ≤ first by omega)
  obtain ⟨L, hL⟩ : ∃ L, L = pagesB value f tx (needN value.size) := ⟨_, rfl⟩
  have hLl : L.length = needN value.size := by rw [hL, pagesB_length]
  have hN : needN value.size ≤ 10 := by unfold needN; omega
  have hNp := needN_pos value.size
  have HL : Hid (∀ W, Calls Try.prog 6 #[.string value, .int .i64 f, .int .i64 tx] W fun e w' => ∃ v, e = .returned (.tuple #[v, .int .i64 0]) ∧ OwnP W.heap.size w' v L ∧ Below W.heap.size W w') := fun W => by
    have := lay_any W value f tx (by omega) (by omega)
    rw [hl, ← hL] at this
    exact this
  have HNd : Hid (∀ W, Calls Try.prog 12 #[.int .i64 value.size] W fun e w' => e = .returned (.int .i64 L.length) ∧ Below W.heap.size W w') := fun W => by
    have := need_any W value.size (by omega)
    rwa [needB_nat, ← hLl] at this
  have HV := Lib.hid (fun W p => rValid_any W p)
  have HPg : Hid (∀ k p, L[k]? = some p → p.k = 5 ∧ p.id = (f : Int) + (k : Nat) ∧ p.tx = tx ∧ p.ok ∧ p.body = value.extract (232 * k) (min (232 * k + 232) value.size) ∧ p.body.size ≤ 232 ∧ (k + 1 < L.length → p.body.size = 232)) := fun k p hp => by
    have hk := (List.getElem?_eq_some_iff.1 hp).1
    rw [hLl] at hk
    rw [hL, pagesB_at hk] at hp
    obtain rfl := Option.some.inj hp
    have hz := pageB_size value f tx k
    have hi := need_in hk
    refine ⟨rfl, rfl, rfl, (pageB_ok hf2 k).2 ⟨by omega, ht0, ht1⟩, rfl, by omega, fun h => ?_⟩
    rw [hLl] at h
    have := need_in h
    rw [hz]
    omega
  have HCut : Hid (∀ k, k < L.length → value.extract 0 (min (232 * k) value.size) ++ value.extract (232 * k) (min (232 * k + 232) value.size) = value.extract 0 (min (232 * (k + 1)) value.size)) := fun k hk => by
    have hi := need_in (show k < needN value.size by omega)
    show _ = _
    rw [Nat.min_eq_left hi, cut_more _ _ _ (by omega), Nat.mul_succ]
  have HAll : Hid (value.extract 0 (min (232 * L.length) value.size) = value) := by
    show _ = _
    rw [show min (232 * L.length) value.size = value.size by rw [hLl]; unfold needN; omega]
    apply P0.text_ext
    simp
  have HO : Hid (∀ W, Calls Try.prog 8 #[.int .i64 f, .int .i64 value.size] W fun e w' => e = .returned (.tuple #[.string (refT f value.size), .int .i64 0]) ∧ Below W.heap.size W w') := fun W => by
    have := ref_any W f value.size
    have e : refB f value.size = (refT f value.size, 0) := by unfold refB; rw [if_pos ⟨by omega, by omega, by omega, by omega⟩]; rfl
    rw [e] at this
    exact this
  have hu : unrefB (refT f value.size) = ((f : Int), (value.size : Int), 0) := unref_ref ⟨by omega, by omega, by omega, by omega⟩
  have HU : Hid (∀ W, Calls Try.prog 10 #[.string (refT f value.size)] W fun e w' => e = .returned (.tuple #[.int .i64 f, .int .i64 value.size, .int .i64 0]) ∧ Below W.heap.size W w') := fun W => by
    have := unref_any W (refT f value.size)
    rw [hu] at this
    exact this
  have HI : Hid (∀ W, Calls Try.prog 15 #[.string (refT f value.size)] W fun e w' => ∃ v, e = .returned (.tuple #[v, .int .i64 0]) ∧ (∃ a c, v = .slice a L.length c) ∧ Below W.heap.size W w') := fun W => by
    refine (ids_any W (refT f value.size)).mono ?_
    rintro e w' ⟨v, rfl, ho, hb⟩
    refine ⟨v, by rw [hu], ?_, hb⟩
    obtain ⟨a, c, e⟩ := ho.ns.slice
    refine ⟨a, c, ?_⟩
    rw [e, show (idsB (refT f value.size)).length = L.length by unfold idsB; rw [hu]; simp [upB_length, hLl]]
  generalize refT f value.size = R at *
  have hL10 : L.length ≤ 10 := by omega
  have hf4 : f < 4000 := by omega
  clear hl hL hLl hN hu hfN hNp
  go_enter Try.func4, Try.ntmps4
  go_wp2_with (first
    | (go_at_call 5; (with_reducible refine (HA.out _).mono ?_); rintro e w1 ⟨rfl, hb⟩; have K1 := Lib.hid hb; clear hb)
    | (go_at_call 6; (with_reducible refine (HL.out _).mono ?_); rintro e w2 ⟨v2, rfl, ho, hb⟩; have K2 := Lib.hid (thenBelow K1.out hb); have P2 := Lib.hid ho.pgs; obtain ⟨va, vc, rfl⟩ := ho.pgs.slice; clear ho hb))
  go_loopw [9, 10] (fun vs vk wr => ∃ k : Nat, k ≤ L.length ∧ vk = .int .i64 k ∧ vs = .string (value.extract 0 (min (232 * k) value.size)) ∧ Hid (Below w.heap.size w wr) ∧ Hid (PgsIn wr (.slice va L.length vc) L)) (fun _ vk _ => L.length - (RowKit.intOf vk).toNat)
  case atStart => exact ⟨0, Nat.zero_le _, rfl, by rw [Nat.mul_zero, Nat.zero_min]; exact congrArg Value.string (P0.text_ext (by simp)), K2, P2⟩
  case round =>
    clear K2 P2 K1
    obtain ⟨k, hk, rfl, rfl, HB, HP⟩ := hrel
    by_cases hlt : k < L.length
    · obtain ⟨p, hp⟩ : ∃ p, L[k]? = some p := ⟨_, List.getElem?_eq_getElem hlt⟩
      obtain ⟨b, off, rfl, hc⟩ := HP.out.at_ hp
      obtain ⟨c0, c1, c2, c3⟩ := hc _ (Below.refl _ _)
      obtain ⟨g1, g2, g3, g4, g5, g6, g7⟩ := HPg.out k p hp
      have HVp : Hid (∀ W, Calls Try.prog 17 #[.agg #[.int .i64 p.k, .int .i64 p.id, .int .i64 p.tx, .string p.body]] W fun r w' => r = .returned (.bool true) ∧ Below W.heap.size W w') := fun W => by
        have := HV.out W p
        rw [decide_eq_true g4] at this
        exact this
      have HNx := Lib.hid (HCut.out k hlt)
      rw [← g5] at HNx
      have hS : (value.extract 0 (min (232 * k) value.size)).size ≤ 2000 := by rw [ByteArray.size_extract]; omega
      have hSb : ¬ 9223372036854775807 < (value.extract 0 (min (232 * k) value.size)).size + p.body.size := by omega
      generalize value.extract 0 (min (232 * k) value.size) = S at *
      obtain ⟨pk, pid, ptx, pb⟩ := p
      simp only at *
      subst g1 g2 g3
      have k1 : decide ((k : Int) < (L.length : Int)) = true := decide_eq_true (by omega)
      have k2 : (k : Int) < (L.length : Int) := by omega
      have k3 : (0 : Int) ≤ (k : Int) := by omega
      clear hc hp g4 g5 hS HV HCut HPg
      by_cases hq : k + 1 < L.length
      · have q1 : decide ((k : Int) + 1 < (L.length : Int)) = true := decide_eq_true (by omega)
        have q2 : ((pb.size : Int) != 232) = false := by simp; exact_mod_cast g7 hq
        clear g6 g7
        go_wp2_with (go_at_call 17; (with_reducible refine (HVp.out _).mono ?_); rintro e w3 ⟨rfl, hb⟩; have B3 := Lib.hid (thenBelow HB.out hb); have P3 := Lib.hid (HP.out.below hb); clear hb)
        go_roundw
        case rel => exact ⟨k + 1, by omega, by go_num, by rw [HNx.out], B3, P3⟩
        case measure => simp [RowKit.intOf]; omega
      · have q1 : decide ((k : Int) + 1 < (L.length : Int)) = false := decide_eq_false (by omega)
        clear g6 g7
        go_wp2_with (go_at_call 17; (with_reducible refine (HVp.out _).mono ?_); rintro e w3 ⟨rfl, hb⟩; have B3 := Lib.hid (thenBelow HB.out hb); have P3 := Lib.hid (HP.out.below hb); clear hb)
        go_roundw
        case rel => exact ⟨k + 1, by omega, by go_num, by rw [HNx.out], B3, P3⟩
        case measure => simp [RowKit.intOf]; omega
    · have e9 : k = L.length := by omega
      subst e9
      have k1 : decide ((L.length : Int) < (L.length : Int)) = false := decide_eq_false (by omega)
      rw [HAll.out]
      clear HV HCut HPg HAll HP
      go_wp2_with (first
        | (go_at_call 8; (with_reducible refine (HO.out _).mono ?_); rintro e w4 ⟨rfl, hb⟩; have B4 := Lib.hid (thenBelow HB.out hb); clear hb)
        | (go_at_call 10; (with_reducible refine (HU.out _).mono ?_); rintro e w5 ⟨rfl, hb⟩; have B5 := Lib.hid (thenBelow B4.out hb); clear hb)
        | (go_at_call 15; (with_reducible refine (HI.out _).mono ?_); rintro e w6 ⟨v6, rfl, ⟨ia, ic, rfl⟩, hb⟩; have B6 := Lib.hid (thenBelow B5.out hb); clear hb)
        | (go_at_call 12; (with_reducible refine (HNd.out _).mono ?_); rintro e w7 ⟨rfl, hb⟩; have B7 := Lib.hid (thenBelow B6.out hb); clear hb))
      go_ret
      exact ⟨rfl, B7.out⟩

set_option maxRecDepth 100000 in
theorem parts_walk (w : World) (value : ByteArray) (first tx : Int) (hF : first ≤ 9223372036854775807) :
    Calls Try.prog 4 #[.string value, .int .i64 first, .int .i64 tx] w fun e w' => e = .returned (.bool true) ∧ Below w.heap.size w w' := by
  by_cases h1 : value.size ≤ 2000
  · by_cases h : layOk value first tx
    · exact parts_ok w value first tx h1 h
    · exact parts_bad w value first tx hF h1 h
  · have HA := Lib.hid (fun w => alive_any w)
    have b1 : decide ((2000 : Int) < (value.size : Int)) = true := decide_eq_true (by omega)
    have b1' : decide (2000 < value.size) = true := decide_eq_true (by omega)
    clear h1
    go_enter Try.func4, Try.ntmps4
    go_wp2_with (go_at_call 5; (with_reducible refine (HA.out _).mono ?_); rintro e w1 ⟨rfl, hb⟩; have K1 := Lib.hid hb; clear hb)
    go_ret
    exact ⟨rfl, K1.out⟩

end Go.Proofs.Ytpbaodjmkdcihaa.P11
