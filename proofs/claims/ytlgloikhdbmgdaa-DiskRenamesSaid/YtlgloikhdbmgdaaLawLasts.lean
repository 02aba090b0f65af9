/-
  P402, P403, W1: what was synced is there behind any crash: the walk of the statement DiskLasts.
-/
import Derived.Test.YtlgloikhdbmgdaaLs1
namespace Go.Proofs.Ytlgloikhdbmgdaa.P4
open Go Go.RowKit Go.Lib Go.Maps Go.ChangeMaps Go.MapKept Go.Proofs.Ytlgloikhdbmgdaa.P3

set_option maxRecDepth 100000 in
theorem lasts_skip (w : World) (v u : Value) (bs ks : List Int) (S : Int) (hv : IntsIn w v bs) (hu : IntsIn w u ks) (h : ¬ (bs.length ≤ 30 ∧ ks.length ≤ 100 ∧ 0 ≤ S ∧ S ≤ bs.length)) :
    Calls Try.prog 3 #[v, .int .i64 S, u] w fun e w' => e = .returned (.bool true) ∧ Below w.heap.size w w' := by
  have HA := Lib.hid (fun w => alive_any4 w)
  obtain ⟨a, c, rfl, -, -⟩ := hv
  obtain ⟨a2, c2, rfl, -, -⟩ := hu
  by_cases h1 : bs.length ≤ 30
  · have k1 : decide ((30 : Int) < (bs.length : Int)) = false := decide_eq_false (by omega)
    have k1' : decide (30 < bs.length) = false := decide_eq_false (by omega)
    by_cases h2 : ks.length ≤ 100
    · have k2 : decide ((100 : Int) < (ks.length : Int)) = false := decide_eq_false (by omega)
      have k2' : decide (100 < ks.length) = false := decide_eq_false (by omega)
      by_cases h3 : S < 0
      · have k3 : decide (S < 0) = true := decide_eq_true h3
        clear h h1 h2 h3
        go_enter Try.func3, Try.ntmps3
        go_wp2_with (go_at_call 8; (with_reducible refine (HA.out _).mono ?_); rintro e w1 ⟨rfl, hb⟩)
        go_ret
        exact ⟨rfl, hb⟩
      · have k3 : decide (S < 0) = false := decide_eq_false h3
        have k4 : decide ((bs.length : Int) < S) = true := decide_eq_true (by omega)
        clear h h1 h2 h3
        go_enter Try.func3, Try.ntmps3
        go_wp2_with (go_at_call 8; (with_reducible refine (HA.out _).mono ?_); rintro e w1 ⟨rfl, hb⟩)
        go_ret
        exact ⟨rfl, hb⟩
    · have k2 : decide ((100 : Int) < (ks.length : Int)) = true := decide_eq_true (by omega)
      have k2' : decide (100 < ks.length) = true := decide_eq_true (by omega)
      clear h h1 h2
      go_enter Try.func3, Try.ntmps3
      go_wp2_with (go_at_call 8; (with_reducible refine (HA.out _).mono ?_); rintro e w1 ⟨rfl, hb⟩)
      go_ret
      exact ⟨rfl, hb⟩
  · have k1 : decide ((30 : Int) < (bs.length : Int)) = true := decide_eq_true (by omega)
    have k1' : decide (30 < bs.length) = true := decide_eq_true (by omega)
    clear h h1
    go_enter Try.func3, Try.ntmps3
    go_wp2_with (go_at_call 8; (with_reducible refine (HA.out _).mono ?_); rintro e w1 ⟨rfl, hb⟩)
    go_ret
    exact ⟨rfl, hb⟩

/-- the names and the state of the loops -/
def nA : ByteArray := ⟨#[97]⟩
def loAt (S j : Nat) : Nat := if 0 < S ∧ S ≤ j then S else 0
theorem lo_le (S j : Nat) : loAt S j ≤ j := by unfold loAt; split <;> omega
theorem lo_end {S n : Nat} (h : S ≤ n) : loAt S n = S := by unfold loAt; split <;> omega

/-- a list that is older than all that changes -/
theorem ints_kept {w : World} {a : Option Addr} {c : Nat} {l : List Int} (h : IntsIn w (.slice a l.length c) l) (w' : World) (hb : Below w.heap.size w w') (h0 : 0 < l.length) :
    ∃ b off, a = some ⟨b, off, none⟩ ∧ ∀ i, i < l.length → w'.cell? ⟨b, off + i, none⟩ = some (.int .i64 (l.getD i 0)) := by
  obtain ⟨a', c', e, _, h3⟩ := h
  simp only [Value.slice.injEq, true_and] at e
  obtain ⟨rfl, _⟩ := e
  obtain ⟨b, off, rfl, h5, h6⟩ := h3 h0
  exact ⟨b, off, rfl, fun i hi => by rw [hb.cell (p := ⟨b, off + i, none⟩) h5]; exact h6 i hi⟩
theorem beq_text {a b : ByteArray} (h : a = b) : (a.toList == b.toList) = true := by rw [h]; exact beq_self_eq_true _
theorem clamp_min (y : Int) : min (max y 0) 256 = (clampI y : Int) := by unfold clampI; omega
theorem lost_succ (ks : List Int) (m : Nat) (h : clampI (ks.getD m 0) < 256) : (lostC ks m : Int) + 1 = (lostC ks (m + 1) : Nat) := by rw [lostC, if_pos h]; omega
theorem lost_stay (ks : List Int) (m : Nat) (h : ¬ clampI (ks.getD m 0) < 256) : lostC ks (m + 1) = lostC ks m := by rw [lostC, if_neg h]; rfl
theorem lost_le (ks : List Int) (m : Nat) : lostC ks m ≤ m := by
  induction m with
  | zero => exact Nat.le_refl 0
  | succ m ih => rw [lostC]; split <;> omega

theorem QD.overD {on : Bool} {a w w' : World} {d t : Nat} {A : AL} (h : QD on a w d t A) (hb : Below w.drew.heap.size w.drew w') : QD on a w' d t A := h.below ⟨hb.os, hb.tape, hb.output, hb.size, hb.block⟩
set_option maxRecDepth 100000 in
set_option maxHeartbeats 8000000 in
theorem lasts_in (w : World) (v u : Value) (bs ks : List Int) (S : Nat) (hv : IntsIn w v bs) (hu : IntsIn w u ks) (h1 : bs.length ≤ 30) (h2 : ks.length ≤ 100) (h3 : S ≤ bs.length) :
    Calls Try.prog 3 #[v, .int .i64 S, u] w fun e w' => e = .returned (.bool true) ∧ Below w.heap.size w w' := by
  have HA := Lib.hid (fun w => alive_any4 w)
  have HN := Lib.hid (fun w => qd_new w)
  have HF := fun x => Lib.hid (fun w => fill_byte w x)
  have HZ := Lib.hid (fun w n h => rZeros4 w n h)
  have HU := Lib.hid (fun w0 (hb : Below w.heap.size w w0) => (hu.below hb).lent)
  obtain ⟨a, c, rfl, hl, -⟩ := id hv
  obtain ⟨a2, c2, rfl, hl2, -⟩ := id hu
  have HB := Lib.hid (ints_kept hv)
  have HK := Lib.hid (ints_kept hu)
  have HFa := Lib.hid (after_facts bs ks h3)
  have HW1 : Hid (∀ w0 W d lo j, QD true w0 W d j (lasts nA.data.toList (qsL bs) lo j) → lo ≤ j → j < bs.length → Calls Try.prog 10 #[.pointer (some ⟨d, 0, none⟩), .string ⟨#[97]⟩, .int .i64 j, .string (qx (bs.getD j 0))] W fun e w' => e = .returned (.int .i64 0) ∧ QD true w0 w' d (j + 1) (lasts nA.data.toList (qsL bs) lo (j + 1))) := fun w0 W d lo j h a b => l_write (s := nA) rfl h a b h1
  have HS1 : Hid (∀ w0 W d j, QD true w0 W d j (lasts nA.data.toList (qsL bs) 0 j) → 0 < j → Calls Try.prog 12 #[.pointer (some ⟨d, 0, none⟩), .string ⟨#[97]⟩] W fun e w' => e = .returned (.int .i64 0) ∧ QD true w0 w' d j (lasts nA.data.toList (qsL bs) j j)) := fun w0 W d j h a => l_sync (s := nA) rfl h a
  have HC1 : Hid (∀ w0 W d, QD true w0 W d bs.length (lasts nA.data.toList (qsL bs) S bs.length) → IntsR (fun _ => False) w0 (.slice a2 ks.length c2) ks → Calls Try.prog 13 #[.pointer (some ⟨d, 0, none⟩), .slice a2 ks.length c2] W fun e w' => e = .returned (.int .i64 (lostC ks (bs.length - S) : Nat)) ∧ QD false w0 w' d bs.length (afterC nA.data.toList (qsL bs) ks S)) := fun w0 W d h hv => l_crash h h3 hv
  have HE1 : Hid (∀ w0 W d, QD true w0 W d bs.length (afterC nA.data.toList (qsL bs) ks S) → Calls Try.prog 15 #[.pointer (some ⟨d, 0, none⟩), .string ⟨#[97]⟩] W fun e w' => e = .returned (.tuple #[.int .i64 ((afterR bs ks S).length : Nat), .int .i64 (if 0 < (afterR bs ks S).length then 0 else 8)]) ∧ QD true w0 w' d bs.length (afterC nA.data.toList (qsL bs) ks S)) := fun w0 W d h => l_size (s := nA) rfl h
  have HR1 : Hid (∀ w0 W d i, QD true w0 W d bs.length (afterC nA.data.toList (qsL bs) ks S) → i < (afterR bs ks S).length → Calls Try.prog 16 #[.pointer (some ⟨d, 0, none⟩), .string ⟨#[97]⟩, .int .i64 i] W fun e w' => e = .returned (.tuple #[.string ((afterR bs ks S).getD i zeros), .int .i64 0]) ∧ QD true w0 w' d bs.length (afterC nA.data.toList (qsL bs) ks S)) := fun w0 W d i h hi => l_read (s := nA) rfl h hi
  have HD1 : Hid (∀ w0 W d, QD true w0 W d bs.length (afterC nA.data.toList (qsL bs) ks S) → Calls Try.prog 18 #[.pointer (some ⟨d, 0, none⟩)] W fun e w' => e = .returned (.int .i64 0) ∧ QD true w0 w' d bs.length (afterC nA.data.toList (qsL bs) ks S)) := fun w0 W d h => l_dirty h
  have HEe : Hid (((if 0 < (afterR bs ks S).length then 0 else 8 : Int) = 0) ∨ ((if 0 < (afterR bs ks S).length then 0 else 8 : Int) = 8 ∧ S = 0)) := by
    by_cases h : 0 < (afterR bs ks S).length
    · exact .inl (if_pos h)
    · exact .inr ⟨if_neg h, by have := HFa.out.lo; omega⟩
  have HQs : Hid (∀ i, i < bs.length → (qsL bs).getD i ⟨#[]⟩ = qx (bs.getD i 0)) := fun i hi => qs_at bs hi
  generalize (if 0 < (afterR bs ks S).length then 0 else 8 : Int) = E at *
  generalize afterR bs ks S = R at *
  generalize hAC : afterC nA.data.toList (qsL bs) ks S = AC at *
  clear hv hu hAC
  have k1 : decide ((30 : Int) < (bs.length : Int)) = false := decide_eq_false (by omega)
  have k1' : decide (30 < bs.length) = false := decide_eq_false (by omega)
  have k2 : decide ((100 : Int) < (ks.length : Int)) = false := decide_eq_false (by omega)
  have k2' : decide (100 < ks.length) = false := decide_eq_false (by omega)
  have k3 : decide ((S : Int) < 0) = false := decide_eq_false (by omega)
  have k4 : decide ((bs.length : Int) < (S : Int)) = false := decide_eq_false (by omega)
  have k4' : decide (bs.length < S) = false := decide_eq_false (by omega)
  go_enter Try.func3, Try.ntmps3
  go_wp2_with (first
    | (go_at_call 8; (with_reducible refine (HA.out _).mono ?_); rintro e w0 ⟨rfl, hb0⟩)
    | (go_at_call 9; (with_reducible refine (HN.out _).mono ?_); rintro e w1 ⟨rfl, hq⟩; have HQ := Lib.hid hq; clear hq))
  have HB0 := Lib.hid hb0
  obtain ⟨d, hd⟩ : ∃ d, d = w0.heap.size := ⟨_, rfl⟩
  rw [← hd] at HQ ⊢
  clear hd hb0 k1 k1' k2 k2' k3 k4 k4'
  go_loopw [8] (fun i wr => ∃ j : Nat, j ≤ bs.length ∧ i = .int .i64 j ∧ Hid (QD true w0 wr d j (lasts nA.data.toList (qsL bs) (loAt S j) j))) (fun i _ => bs.length - (RowKit.intOf i).toNat)
  case atStart => exact ⟨0, Nat.zero_le _, rfl, by rw [show loAt S 0 = 0 by unfold loAt; split <;> omega]; exact HQ⟩
  case round =>
    obtain ⟨j, hj, rfl, hq⟩ := hrel
    clear HQ
    have HQ := hq
    clear hq
    by_cases hjn : j < bs.length
    · obtain ⟨b, off, rfl, hcc⟩ := HB.out wr (HB0.out.trans (HQ.out.fr.mono HB0.out.size)) (by omega)
      have hcell := hcc j hjn
      have hos := one_string wr (bs.getD j 0)
      have HW2 := Lib.hid (fun W h => HW1.out w0 W d (loAt S j) j h (lo_le S j) hjn)
      have HF2 := HF (bs.getD j 0)
      have HQ2 := Lib.hid (HQ.out.below (below_new wr (.cells #[.int .u8 (bs.getD j 0 % 256)] 5)))
      generalize bs.getD j 0 = x at hcell hos HW2 HF2 HQ2
      have i0 : (0 : Int) ≤ (j : Int) := by omega
      have i1 : (j : Int) < (bs.length : Int) := by omega
      clear hcc HB HA HN HC1 HE1 HR1 HD1 HQs
      by_cases hS : j + 1 = S
      · have kS : ((j : Int) + 1 == (S : Int)) = true := by simp; omega
        have hlo : loAt S j = 0 := by unfold loAt; rw [if_neg (by omega)]
        have hlo2 : loAt S (j + 1) = j + 1 := by unfold loAt; rw [if_pos (by omega)]; omega
        rw [hlo] at HW2 HQ2
        go_wp2_with (first
          | (go_at_call 11; (with_reducible refine (HF2.out _).mono ?_); rintro e w2 ⟨rfl, hb⟩; have HQ := Lib.hid (HQ2.out.below hb); clear hb)
          | (go_at_call 10; (with_reducible refine (HW2.out _ HQ.out).mono ?_); rintro e w3 ⟨rfl, hq⟩; have HQ := Lib.hid hq; clear hq)
          | (go_at_call 12; (with_reducible refine (HS1.out _ _ _ _ HQ.out (Nat.succ_pos _)).mono ?_); rintro e w4 ⟨rfl, hq⟩; have HQ := Lib.hid hq; clear hq))
        go_roundw
        case rel => exact ⟨j + 1, by omega, by go_num, by rw [hlo2]; exact HQ⟩
        case measure => simp [RowKit.intOf]; omega
      · have kS : ((j : Int) + 1 == (S : Int)) = false := by simp; omega
        have hlo2 : loAt S (j + 1) = loAt S j := by unfold loAt; by_cases h : 0 < S ∧ S ≤ j; · rw [if_pos h, if_pos (by omega)]
                                                    · rw [if_neg h, if_neg (by omega)]
        go_wp2_with (first
          | (go_at_call 11; (with_reducible refine (HF2.out _).mono ?_); rintro e w2 ⟨rfl, hb⟩; have HQ := Lib.hid (HQ2.out.below hb); clear hb)
          | (go_at_call 10; (with_reducible refine (HW2.out _ HQ.out).mono ?_); rintro e w3 ⟨rfl, hq⟩; have HQ := Lib.hid hq; clear hq))
        go_roundw
        case rel => exact ⟨j + 1, by omega, by go_num, by rw [hlo2]; exact HQ⟩
        case measure => simp [RowKit.intOf]; omega
    · obtain rfl : j = bs.length := by omega
      rw [lo_end h3] at HQ
      have HU2 := Lib.hid (HU.out w0 HB0.out)
      go_wp2_with (first
        | (go_at_call 13; (with_reducible refine (HC1.out _ _ _ HQ.out HU2.out).mono ?_); rintro e w2 ⟨rfl, hq⟩; have HQ := Lib.hid hq; clear hq)
        | (go_at_call 14; (with_reducible refine (HQ.out.restore).mono ?_); rintro e w3 ⟨rfl, hq⟩; have HQ := Lib.hid hq; clear hq)
        | (go_at_call 15; (with_reducible refine (HE1.out _ _ _ HQ.out).mono ?_); rintro e w4 ⟨rfl, hq⟩; have HQ := Lib.hid hq; clear hq))
      go_loopw [12, 13, 14, 15, 16, 17] (fun vl vi vk vs ve vt wr => ∃ m I : Nat, Hid (I = S + m) ∧ I ≤ bs.length ∧ vl = .int .i64 (lostC ks m : Nat) ∧ vi = .int .i64 (I : Nat) ∧ Hid (QD true w0 wr d bs.length AC)) (fun _ vi _ _ _ _ _ => bs.length - (RowKit.intOf vi).toNat)
      case atStart => exact ⟨0, S, Lib.hid rfl, by omega, rfl, rfl, HQ⟩
      case round =>
        obtain ⟨m, I, hI, hm, rfl, rfl, hq⟩ := hrel
        clear HQ
        have HQ := hq
        clear hq
        have hll := lost_le ks m
        have hI' := hI.out
        by_cases hin : I < bs.length
        · have hBw := HB0.out.trans (HQ.out.fr.mono HB0.out.size)
          have i0 : (0 : Int) ≤ (I : Int) := by omega
          have i1 : (I : Int) < (bs.length : Int) := by omega
          have i2 : (I : Int) - (S : Int) = (m : Int) := by omega
          have hls := lost_succ ks m
          have hlt := lost_stay ks m
          have hF1 := HFa.out.new m (by omega)
          have hI2 : Hid (I + 1 = S + (m + 1)) := Lib.hid (by omega)
          rw [← hI'] at hF1
          by_cases hk : m < ks.length
          · obtain ⟨b2, off2, rfl, hcc2⟩ := HK.out wr hBw (by omega)
            have hcell2 := hcc2 m hk
            have hcm := clamp_min (ks.getD m 0)
            have j1 : (m : Int) < (ks.length : Int) := by omega
            have j2 : (0 : Int) ≤ (m : Int) := by omega
            have hcl := clamp_le (ks.getD m 0)
            generalize ks.getD m 0 = y at hcell2 hcm hls hlt hF1 hcl
            generalize clampI y = K at hcm hls hlt hF1 hcl
            by_cases K0 : K = 0
            · subst K0
              have hl2 := hls (by decide)
              rw [show ((0 : Nat) : Int) = 0 from rfl] at hcm
              have hll2 := lost_le ks (m + 1)
              clear hI' hin hm hls hlt hcc2
              go_wp2
              go_roundw
              case rel => exact ⟨m + 1, I + 1, hI2, by omega, by go_num, by go_num, HQ⟩
              case measure => simp [RowKit.intOf]; omega
            by_cases K1 : K < 256
            · have hl2 := hls K1
              have k5 : decide ((K : Int) < 256) = true := decide_eq_true (by omega)
              have k5' : decide (K < 256) = true := decide_eq_true K1
              have k6 : ((K : Int) == 0) = false := by simp; omega
              obtain ⟨b, off, rfl, hcc⟩ := HB.out wr hBw (by omega)
              have hcell := hcc I hin
              have hos := fun W => one_string W (bs.getD I 0)
              have HC5 : Hid (∀ w5, Below w0.heap.size w0 w5 → w5.cell? ⟨b, off + I, none⟩ = some (.int .i64 (bs.getD I 0))) := fun w5 h5 => by
                obtain ⟨b', off', e, hc5⟩ := HB.out w5 (HB0.out.trans (h5.mono HB0.out.size)) (by omega)
                simp only [Option.some.injEq, Addr.mk.injEq, and_true] at e
                obtain ⟨rfl, rfl⟩ := e
                exact hc5 I hin
              have HF2 := HF (bs.getD I 0)
              obtain ⟨hIR, hT⟩ := hF1 K0
              have hqs := HQs.out I hin
              have HR2 := Lib.hid (fun W h => HR1.out w0 W d I h hIR)
              have hXs := qx_size (bs.getD I 0)
              rw [hqs] at hT
              have ht1 := torn_front (k := K) hXs hcl
              have ht2 := torn_back (k := K) hXs hcl
              have ht3 := torn_size (k := K) hXs zeros_size hcl
              rw [zeros_tail hcl] at ht2
              rw [← hT] at ht1 ht2 ht3
              have HZ3 := fun W => (show Calls Try.prog 17 #[.int .i64 (IntKind.i64.wrap (256 - (K : Int)))] W fun e w' => e = .returned (.string (zerB (256 - K))) ∧ Below W.heap.size W w' from by
                rw [show IntKind.i64.wrap ((256 : Int) - (K : Int)) = ((256 - K : Nat) : Int) by rw [IntKind.wrap_i64]; omega]
                exact HZ.out W (256 - K) (by omega))
              have c1 := beq_text ht1
              have c2 := beq_text (b := zerB (256 - K)) ht2
              generalize hRT : R.getD I zeros = T at HR2 c1 c2 ht3
              generalize bs.getD I 0 = x at hcell hos HF2 hXs c1 HC5
              generalize qx x = X at HF2 hXs c1
              have n1 : ((T.size : Int) != 256) = false := by simp; omega
              have n2 : (0 : Int) ≤ (K : Int) := by omega
              have n3 : (K : Int) ≤ (T.size : Int) := by omega
              have n4 : (K : Int) ≤ (X.size : Int) := by omega
              generalize zerB (256 - K) = Z at HZ3 c2
              clear hI'
              have hll2 := lost_le ks (m + 1)
              clear hT ht1 ht2 ht3 hXs hqs hRT hF1 hcc hcc2 HB HK HC1 HE1 HW1 HS1 HD1 HQs HA HN HU HF HR1 HFa hBw HU2
              go_wp2_with (first
                | (go_at_call 16; go_loud ((with_reducible refine (HR2.out _ HQ.out).mono ?_); rintro e w5 ⟨rfl, hq⟩; have HQ := Lib.hid (hq.below (below_new w5 (.cells #[.int .u8 (x % 256)] 5))); have hos := hos w5; have hcell := (HC5.out w5 hq.fr)))
                | (go_at_call 11; (with_reducible refine (HF2.out _).mono ?_); rintro e w6 ⟨rfl, hb⟩; have HQ := Lib.hid (HQ.out.below hb); clear hb))
              go_region_held3 (fun _ => True) (trivial) (first | (go_at_call 17; (with_reducible refine (HZ3 _).mono ?_); rintro e w7 ⟨rfl, hb⟩; have HQ := Lib.hid (QD.overD HQ.out hb); clear hb))
              go_wp2
              go_roundw
              case rel => exact ⟨m + 1, I + 1, hI2, by omega, by go_num, by go_num, HQ⟩
              case measure => simp [RowKit.intOf]; omega
            · have hl2 := hlt K1
              have k5 : decide ((K : Int) < 256) = false := decide_eq_false (by omega)
              have k5' : decide (K < 256) = false := decide_eq_false K1
              have k6 : ((K : Int) == 0) = false := by simp; omega
              obtain ⟨b, off, rfl, hcc⟩ := HB.out wr hBw (by omega)
              have hcell := hcc I hin
              have hos := fun W => one_string W (bs.getD I 0)
              have HC5 : Hid (∀ w5, Below w0.heap.size w0 w5 → w5.cell? ⟨b, off + I, none⟩ = some (.int .i64 (bs.getD I 0))) := fun w5 h5 => by
                obtain ⟨b', off', e, hc5⟩ := HB.out w5 (HB0.out.trans (h5.mono HB0.out.size)) (by omega)
                simp only [Option.some.injEq, Addr.mk.injEq, and_true] at e
                obtain ⟨rfl, rfl⟩ := e
                exact hc5 I hin
              have HF2 := HF (bs.getD I 0)
              obtain ⟨hIR, hT⟩ := hF1 K0
              have hqs := HQs.out I hin
              have HR2 := Lib.hid (fun W h => HR1.out w0 W d I h hIR)
              have hXs := qx_size (bs.getD I 0)
              rw [hqs] at hT
              have ht1 := torn_front (k := K) hXs hcl
              have ht2 := torn_back (k := K) hXs hcl
              have ht3 := torn_size (k := K) hXs zeros_size hcl
              rw [zeros_tail hcl] at ht2
              rw [← hT] at ht1 ht2 ht3
              have HZ3 := fun W => (show Calls Try.prog 17 #[.int .i64 (IntKind.i64.wrap (256 - (K : Int)))] W fun e w' => e = .returned (.string (zerB (256 - K))) ∧ Below W.heap.size W w' from by
                rw [show IntKind.i64.wrap ((256 : Int) - (K : Int)) = ((256 - K : Nat) : Int) by rw [IntKind.wrap_i64]; omega]
                exact HZ.out W (256 - K) (by omega))
              have c1 := beq_text ht1
              have c2 := beq_text (b := zerB (256 - K)) ht2
              generalize hRT : R.getD I zeros = T at HR2 c1 c2 ht3
              generalize bs.getD I 0 = x at hcell hos HF2 hXs c1 HC5
              generalize qx x = X at HF2 hXs c1
              have n1 : ((T.size : Int) != 256) = false := by simp; omega
              have n2 : (0 : Int) ≤ (K : Int) := by omega
              have n3 : (K : Int) ≤ (T.size : Int) := by omega
              have n4 : (K : Int) ≤ (X.size : Int) := by omega
              generalize zerB (256 - K) = Z at HZ3 c2
              clear hI'
              have hll2 := lost_le ks (m + 1)
              clear hT ht1 ht2 ht3 hXs hqs hRT hF1 hcc hcc2 HB HK HC1 HE1 HW1 HS1 HD1 HQs HA HN HU HF HR1 HFa hBw HU2
              go_wp2_with (first
                | (go_at_call 16; go_loud ((with_reducible refine (HR2.out _ HQ.out).mono ?_); rintro e w5 ⟨rfl, hq⟩; have HQ := Lib.hid (hq.below (below_new w5 (.cells #[.int .u8 (x % 256)] 5))); have hos := hos w5; have hcell := (HC5.out w5 hq.fr)))
                | (go_at_call 11; (with_reducible refine (HF2.out _).mono ?_); rintro e w6 ⟨rfl, hb⟩; have HQ := Lib.hid (HQ.out.below hb); clear hb))
              go_region_held3 (fun _ => True) (trivial) (first | (go_at_call 17; (with_reducible refine (HZ3 _).mono ?_); rintro e w7 ⟨rfl, hb⟩; have HQ := Lib.hid (QD.overD HQ.out hb); clear hb))
              go_wp2
              go_roundw
              case rel => exact ⟨m + 1, I + 1, hI2, by omega, by (rw [hl2]), by go_num, HQ⟩
              case measure => simp [RowKit.intOf]; omega
          · have hy : ks.getD m 0 = 0 := by rw [List.getD_eq_getElem?_getD, List.getElem?_eq_none (by omega)]; rfl
            have j1 : decide ((m : Int) < (ks.length : Int)) = false := decide_eq_false (by omega)
            have j1' : decide (m < ks.length) = false := decide_eq_false (by omega)
            rw [hy] at hls
            have hl2 := hls (by decide)
            go_wp2
            go_roundw
            case rel => exact ⟨m + 1, I + 1, hI2, by omega, by go_num, by go_num, HQ⟩
            case measure => simp [RowKit.intOf]; omega
        · obtain rfl : I = bs.length := by omega
          have hmS : m = bs.length - S := by omega
          subst hmS
          have hlR := HFa.out.lo
          clear hI' hI
          go_wp2
          go_loopw [18, 19, 20] (fun vi vs ve wr => ∃ i : Nat, i ≤ S ∧ vi = .int .i64 (i : Nat) ∧ Hid (QD true w0 wr d bs.length AC)) (fun vi _ _ _ => S - (RowKit.intOf vi).toNat)
          case atStart => exact ⟨0, Nat.zero_le _, rfl, HQ⟩
          case round =>
            obtain ⟨i, hi, rfl, hq⟩ := hrel
            clear HQ
            have HQ := hq
            clear hq
            by_cases hiS : i < S
            · obtain ⟨b, off, rfl, hcc⟩ := HB.out wr (HB0.out.trans (HQ.out.fr.mono HB0.out.size)) (by omega)
              have hT := HFa.out.old i hiS
              rw [HQs.out i (by omega)] at hT
              have hos := fun W => one_string W (bs.getD i 0)
              have HF2 := HF (bs.getD i 0)
              have HC5 : Hid (∀ w5, Below w0.heap.size w0 w5 → w5.cell? ⟨b, off + i, none⟩ = some (.int .i64 (bs.getD i 0))) := fun w5 h5 => by
                obtain ⟨b', off', e, hc5⟩ := HB.out w5 (HB0.out.trans (h5.mono HB0.out.size)) (by omega)
                simp only [Option.some.injEq, Addr.mk.injEq, and_true] at e
                obtain ⟨rfl, rfl⟩ := e
                exact hc5 i (by omega)
              have HR2 := Lib.hid (fun W h => HR1.out w0 W d i h (Nat.lt_of_lt_of_le hiS hlR))
              rw [hT] at HR2
              have c1 := beq_text (rfl : qx (bs.getD i 0) = qx (bs.getD i 0))
              generalize bs.getD i 0 = x at hos HF2 HC5 HR2 c1
              generalize qx x = X at HF2 HR2 c1
              have i0 : (0 : Int) ≤ (i : Int) := by omega
              have i1 : (i : Int) < (bs.length : Int) := by omega
              have i2 : decide ((i : Int) < (S : Int)) = true := decide_eq_true (by omega)
              clear hT hcc HB HK HC1 HE1 HW1 HS1 HD1 HQs HA HN HU HF HR1 HFa HU2 hlR HZ
              go_wp2_with (first
                | (go_at_call 16; (with_reducible refine (HR2.out _ HQ.out).mono ?_); rintro e w5 ⟨rfl, hq⟩; have HQ := Lib.hid (hq.below (below_new w5 (.cells #[.int .u8 (x % 256)] 5))); have hos := hos w5; have hcell := (HC5.out w5 hq.fr))
                | (go_at_call 11; (with_reducible refine (HF2.out _).mono ?_); rintro e w6 ⟨rfl, hb⟩; have HQ := Lib.hid (HQ.out.below hb); clear hb))
              go_roundw
              case rel => exact ⟨i + 1, by omega, by go_num, HQ⟩
              case measure => simp [RowKit.intOf]; omega
            · have HQ3 := HQ
              clear HQ
              obtain rfl : i = S := by omega
              have hhR := HFa.out.hi
              have q1 : decide ((i : Int) ≤ (R.length : Int)) = true := decide_eq_true (by omega)
              have q1' : decide (i ≤ R.length) = true := decide_eq_true hlR
              have q2 : decide ((R.length : Int) ≤ (bs.length : Int)) = true := decide_eq_true (by omega)
              have q2' : decide (R.length ≤ bs.length) = true := decide_eq_true (by omega)
              have hE := HEe.out
              have BW := Lib.hid (fun W (h : Below w0.heap.size w0 W) => HB0.out.trans (h.mono HB0.out.size))
              clear HB HK HC1 HE1 HW1 HS1 HQs HA HN HU HF HR1 HFa HU2 HZ hhR hlR HEe
              rcases hE with rfl | ⟨rfl, hS0⟩
              · go_wp2_with (go_at_call 18; (with_reducible refine (HD1.out _ _ _ HQ3.out).mono ?_); rintro e w6 ⟨rfl, hq⟩; have HQ4 := Lib.hid hq; clear hq)
                go_ret
                exact ⟨rfl, BW.out _ HQ4.out.fr⟩
              · have q3 : ((i : Int) == 0) = true := by simp; omega
                go_wp2_with (go_at_call 18; (with_reducible refine (HD1.out _ _ _ HQ3.out).mono ?_); rintro e w6 ⟨rfl, hq⟩; have HQ4 := Lib.hid hq; clear hq)
                go_ret
                exact ⟨rfl, BW.out _ HQ4.out.fr⟩

theorem lasts_walk (w : World) (v : Value) (bs : List Int) (hv : IntsIn w v bs) (S : Int) (u : Value) (ks : List Int) (hu : IntsIn w u ks) :
    Calls Try.prog 3 #[v, .int .i64 S, u] w fun e w' => e = .returned (.bool true) ∧ Below w.heap.size w w' := by
  by_cases h : bs.length ≤ 30 ∧ ks.length ≤ 100 ∧ 0 ≤ S ∧ S ≤ bs.length
  · obtain ⟨h1, h2, h3, h4⟩ := h
    obtain ⟨S, rfl⟩ := Int.eq_ofNat_of_zero_le h3
    exact lasts_in w v u bs ks S hv hu h1 h2 (by omega)
  · exact lasts_skip w v u bs ks S hv hu h

end Go.Proofs.Ytlgloikhdbmgdaa.P4
