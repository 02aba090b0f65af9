/-
  P404: a Rename is there whole or not at all behind a loss of power: the walk of the statement DiskRenames.
-/
import Derived.Test.YtlgloikhdbmgdaaRn0
import Derived.Test.YtlgloikhdbmgdaaLawLasts
namespace Go.Proofs.Ytlgloikhdbmgdaa.P4
open Go Go.RowKit Go.Lib Go.Maps Go.ChangeMaps Go.MapKept Go.Proofs.Ytlgloikhdbmgdaa.P3

set_option maxRecDepth 100000 in
theorem ren_skip (w : World) (v1 v2 u : Value) (old fresh ks : List Int) (n : Int) (hv : IntsIn w v1 old) (hf : IntsIn w v2 fresh) (hu : IntsK w u ks) (h : ¬ (old.length ≤ 12 ∧ fresh.length ≤ 12 ∧ 0 ≤ n ∧ n ≤ 30 ∧ ks.length ≤ 40)) :
    Calls Try.prog 6 #[v1, v2, .int .i64 n, u] w fun e w' => e = .returned (.bool true) ∧ Below w.heap.size w w' := by
  have HA := Lib.hid (fun w => alive_any4 w)
  obtain ⟨a, c, rfl, -, -⟩ := hv
  obtain ⟨af, cf, rfl, -, -⟩ := hf
  obtain ⟨⟨a2, c2, rfl, -, -⟩, -⟩ := hu
  by_cases c0 : 12 < old.length
  · have k0 : decide ((12 : Int) < (old.length : Int)) = true := decide_eq_true (by omega)
    have k0' : decide (12 < old.length) = true := decide_eq_true (by omega)
    clear h c0
    go_enter Try.func6, Try.ntmps6
    go_wp2_with (go_at_call 8; (with_reducible refine (HA.out _).mono ?_); rintro e w1 ⟨rfl, hb⟩)
    go_ret
    exact ⟨rfl, hb⟩
  have k0 : decide ((12 : Int) < (old.length : Int)) = false := decide_eq_false (by omega)
  have k0' : decide (12 < old.length) = false := decide_eq_false (by omega)
  by_cases c1 : 12 < fresh.length
  · have k1 : decide ((12 : Int) < (fresh.length : Int)) = true := decide_eq_true (by omega)
    have k1' : decide (12 < fresh.length) = true := decide_eq_true (by omega)
    clear h c0 c1
    go_enter Try.func6, Try.ntmps6
    go_wp2_with (go_at_call 8; (with_reducible refine (HA.out _).mono ?_); rintro e w1 ⟨rfl, hb⟩)
    go_ret
    exact ⟨rfl, hb⟩
  have k1 : decide ((12 : Int) < (fresh.length : Int)) = false := decide_eq_false (by omega)
  have k1' : decide (12 < fresh.length) = false := decide_eq_false (by omega)
  by_cases c2 : n < 0
  · have k2 : decide (n < 0) = true := decide_eq_true (by omega)
    clear h c0 c1 c2
    go_enter Try.func6, Try.ntmps6
    go_wp2_with (go_at_call 8; (with_reducible refine (HA.out _).mono ?_); rintro e w1 ⟨rfl, hb⟩)
    go_ret
    exact ⟨rfl, hb⟩
  have k2 : decide (n < 0) = false := decide_eq_false (by omega)
  by_cases c3 : 30 < n
  · have k3 : decide ((30 : Int) < n) = true := decide_eq_true (by omega)
    clear h c0 c1 c2 c3
    go_enter Try.func6, Try.ntmps6
    go_wp2_with (go_at_call 8; (with_reducible refine (HA.out _).mono ?_); rintro e w1 ⟨rfl, hb⟩)
    go_ret
    exact ⟨rfl, hb⟩
  have k3 : decide ((30 : Int) < n) = false := decide_eq_false (by omega)
  have k4 : decide ((40 : Int) < (ks.length : Int)) = true := decide_eq_true (by omega)
  have k4' : decide (40 < ks.length) = true := decide_eq_true (by omega)
  clear h c0 c1 c2 c3
  go_enter Try.func6, Try.ntmps6
  go_wp2_with (go_at_call 8; (with_reducible refine (HA.out _).mono ?_); rintro e w1 ⟨rfl, hb⟩)
  go_ret
  exact ⟨rfl, hb⟩

set_option maxRecDepth 100000 in
set_option maxHeartbeats 16000000 in
theorem ren_in1 (w : World) (v1 v2 u : Value) (old fresh ks : List Int) (n : Nat) (hv : IntsIn w v1 old) (hf : IntsIn w v2 fresh) (hu : IntsK w u ks) (h1 : old.length ≤ 12) (h2 : fresh.length ≤ 12) (h3 : n ≤ 30) (h4 : ks.length ≤ 40) (hN : 0 < old.length) :
    Calls Try.prog 6 #[v1, v2, .int .i64 n, u] w fun e w' => e = .returned (.bool true) ∧ Below w.heap.size w w' := by
  have HA := Lib.hid (fun w => alive_any4 w)
  have HN := Lib.hid (fun w => qd_new w)
  have HF := fun x => Lib.hid (fun w => fill_byte w x)
  have HU := Lib.hid (fun w0 (hb : Below w.heap.size w w0) => (hu.below hb).keep (by omega))
  obtain ⟨a, c, rfl, -, -⟩ := id hv
  obtain ⟨af, cf, rfl, -, -⟩ := id hf
  obtain ⟨⟨a2, c2, rfl, -, -⟩, -⟩ := id hu
  have HB := Lib.hid (ints_kept hv)
  have HBf := Lib.hid (ints_kept hf)
  have HW1 : Hid (∀ w0 W d j, QD true w0 W d j (lasts sA.data.toList (qsL old) 0 j) → j < old.length → Calls Try.prog 10 #[.pointer (some ⟨d, 0, none⟩), .string ⟨#[97]⟩, .int .i64 j, .string (qx (old.getD j 0))] W fun e w' => e = .returned (.int .i64 0) ∧ QD true w0 w' d (j + 1) (lasts sA.data.toList (qsL old) 0 (j + 1))) := fun w0 W d j h b => l_write (s := sA) rfl h (Nat.zero_le _) b (by omega)
  have HS1 : Hid (∀ w0 W d, QD true w0 W d old.length (lasts sA.data.toList (qsL old) 0 old.length) → 0 < old.length → Calls Try.prog 12 #[.pointer (some ⟨d, 0, none⟩), .string ⟨#[97]⟩] W fun e w' => e = .returned (.int .i64 0) ∧ QD true w0 w' d old.length (lasts sA.data.toList (qsL old) old.length old.length)) := fun w0 W d h a => l_sync (s := sA) rfl h a
  have HAr : Hid (∀ w0 W d, QD true w0 W d old.length (lasts sA.data.toList (qsL old) old.length old.length) → Below w.heap.size w w0 → Calls Try.prog 19 #[.pointer (some ⟨d, 0, none⟩), .int .i64 n, .slice a2 ks.length c2] W fun e w' => e = .returned (.tuple #[]) ∧ RnLive w0 w' d old fresh n ks 0) := fun w0 W d h hb => r_arm n h (HU.out w0 hb)
  clear hv hf hu
  have k1 : decide ((12 : Int) < (old.length : Int)) = false := decide_eq_false (by omega)
  have k1' : decide (12 < old.length) = false := decide_eq_false (by omega)
  have k2 : decide ((12 : Int) < (fresh.length : Int)) = false := decide_eq_false (by omega)
  have k2' : decide (12 < fresh.length) = false := decide_eq_false (by omega)
  have k3 : decide ((n : Int) < 0) = false := decide_eq_false (by omega)
  have k4 : decide ((30 : Int) < (n : Int)) = false := decide_eq_false (by omega)
  have k4' : decide (30 < n) = false := decide_eq_false (by omega)
  have k5 : decide ((40 : Int) < (ks.length : Int)) = false := decide_eq_false (by omega)
  have k5' : decide (40 < ks.length) = false := decide_eq_false (by omega)
  go_enter Try.func6, Try.ntmps6
  go_wp2_with (first
    | (go_at_call 8; (with_reducible refine (HA.out _).mono ?_); rintro e w0 ⟨rfl, hb0⟩; have HB0 := Lib.hid hb0; clear hb0)
    | (go_at_call 9; (with_reducible refine (HN.out _).mono ?_); rintro e w1 ⟨rfl, hq⟩; have HQ := Lib.hid hq; clear hq))
  obtain ⟨d, hd⟩ : ∃ d, d = w0.heap.size := ⟨_, rfl⟩
  rw [← hd] at HQ ⊢
  clear hd k1 k1' k2 k2' k3 k4 k4' k5 k5'
  go_loopw [10] (fun i wr => ∃ j : Nat, j ≤ old.length ∧ i = .int .i64 j ∧ Hid (QD true w0 wr d j (lasts sA.data.toList (qsL old) 0 j))) (fun i _ => old.length - (RowKit.intOf i).toNat)
  case atStart => exact ⟨0, Nat.zero_le _, rfl, HQ⟩
  case round =>
    obtain ⟨j, hj, rfl, hq⟩ := hrel
    clear HQ
    have HQ := hq
    clear hq
    by_cases hjn : j < old.length
    · obtain ⟨b, off, rfl, hcc⟩ := HB.out wr (HB0.out.trans (HQ.out.fr.mono HB0.out.size)) (by omega)
      have hcell := hcc j hjn
      have hos := one_string wr (old.getD j 0)
      have HW2 := Lib.hid (fun W h => HW1.out w0 W d j h hjn)
      have HF2 := HF (old.getD j 0)
      have HQ2 := Lib.hid (HQ.out.below (below_new wr (.cells #[.int .u8 (old.getD j 0 % 256)] 5)))
      generalize old.getD j 0 = x at hcell hos HW2 HF2 HQ2
      have i0 : (0 : Int) ≤ (j : Int) := by omega
      have i1 : (j : Int) < (old.length : Int) := by omega
      clear hcc HB HBf HA HN HU HAr HS1
      go_wp2_with (first
        | (go_at_call 11; (with_reducible refine (HF2.out _).mono ?_); rintro e w2 ⟨rfl, hb⟩; have HQ := Lib.hid (HQ2.out.below hb); clear hb)
        | (go_at_call 10; (with_reducible refine (HW2.out _ HQ.out).mono ?_); rintro e w3 ⟨rfl, hq⟩; have HQ := Lib.hid hq; clear hq))
      go_roundw
      case rel => exact ⟨j + 1, by omega, by go_num, HQ⟩
      case measure => simp [RowKit.intOf]; omega
    · obtain rfl : j = old.length := by omega
      have o1 : decide ((0 : Int) < (old.length : Int)) = true := decide_eq_true (by omega)
      have o1' : decide (0 < old.length) = true := decide_eq_true (by omega)
      go_wp2_with (first
        | (go_at_call 12; (with_reducible refine (HS1.out _ _ _ HQ.out hN).mono ?_); rintro e w4 ⟨rfl, hq⟩; have HQ := Lib.hid hq; clear hq)
        | (go_at_call 19; (with_reducible refine (HAr.out _ _ _ HQ.out HB0.out).mono ?_); rintro e w5 ⟨rfl, hq⟩; have HL := Lib.hid hq; clear hq))
      clear HQ
      go_loopw [11, 12] (fun ve vi wr => ∃ j : Nat, j ≤ fresh.length ∧ vi = .int .i64 j ∧ ((ve = .int .i64 0 ∧ j ≤ n ∧ Hid (RnLive w0 wr d old fresh n ks j)) ∨ (ve = .int .i64 14 ∧ Hid (RnEnd w0 wr d old)))) (fun _ vi _ => fresh.length - (RowKit.intOf vi).toNat)
      case atStart => exact ⟨0, Nat.zero_le _, rfl, .inl ⟨rfl, Nat.zero_le _, HL⟩⟩
      case round =>
        obtain ⟨j, hj, rfl, hst⟩ := hrel
        clear HL
        rcases hst with ⟨rfl, hjn2, hq⟩ | ⟨rfl, hq⟩
        · have HL := hq
          clear hq
          by_cases hjF : j < fresh.length
          · obtain ⟨b, off, rfl, hcc⟩ := HBf.out wr (HB0.out.trans (HL.out.fr.mono HB0.out.size)) (by omega)
            have hcell := hcc j hjF
            have hos := one_string wr (fresh.getD j 0)
            have HW2 := Lib.hid (fun W h => r_write (a := w0) (w := W) (d := d) (old := old) (n := n) (ks := ks) h hjF h2 h1 h3 hjn2)
            have HF2 := HF (fresh.getD j 0)
            have HL2 := Lib.hid (HL.out.below (below_new wr (.cells #[.int .u8 (fresh.getD j 0 % 256)] 5)))
            generalize fresh.getD j 0 = x at hcell hos HW2 HF2 HL2
            have i0 : (0 : Int) ≤ (j : Int) := by omega
            have i1 : (j : Int) < (fresh.length : Int) := by omega
            clear hcc HB HBf HA HN HU HAr HS1 HW1
            by_cases hjn3 : j < n
            · have HW3 : Hid (∀ W, RnLive w0 W d old fresh n ks j → Calls Try.prog 10 #[.pointer (some ⟨d, 0, none⟩), .string ⟨#[98]⟩, .int .i64 j, .string (qx x)] W fun e w' => e = .returned (.int .i64 0) ∧ RnLive w0 w' d old fresh n ks (j + 1)) := fun W h => (HW2.out W h).mono fun e w' hp => by
                rcases hp with ⟨_, a, b⟩ | ⟨a, _⟩
                · exact ⟨a, b⟩
                · omega
              clear HW2
              go_wp2_with (first
                | (go_at_call 11; (with_reducible refine (HF2.out _).mono ?_); rintro e w2 ⟨rfl, hb⟩; have HL := Lib.hid (HL2.out.below hb); clear hb)
                | (go_at_call 10; (with_reducible refine (HW3.out _ HL.out).mono ?_); rintro e w3 ⟨rfl, hq⟩; have HL := Lib.hid hq; clear hq))
              go_roundw
              case rel => exact ⟨j + 1, by omega, by go_num, .inl ⟨rfl, by omega, HL⟩⟩
              case measure => simp [RowKit.intOf]; omega
            · have HW3 : Hid (∀ W, RnLive w0 W d old fresh n ks j → Calls Try.prog 10 #[.pointer (some ⟨d, 0, none⟩), .string ⟨#[98]⟩, .int .i64 j, .string (qx x)] W fun e w' => e = .returned (.int .i64 14) ∧ RnEnd w0 w' d old) := fun W h => (HW2.out W h).mono fun e w' hp => by
                rcases hp with ⟨a, _⟩ | ⟨_, a, b⟩
                · omega
                · exact ⟨a, b⟩
              clear HW2
              go_wp2_with (first
                | (go_at_call 11; (with_reducible refine (HF2.out _).mono ?_); rintro e w2 ⟨rfl, hb⟩; have HL := Lib.hid (HL2.out.below hb); clear hb)
                | (go_at_call 10; (with_reducible refine (HW3.out _ HL.out).mono ?_); rintro e w3 ⟨rfl, hq⟩; have HE := Lib.hid hq; clear hq))
              go_roundw
              case rel => exact ⟨j + 1, by omega, by go_num, .inr ⟨rfl, HE⟩⟩
              case measure => simp [RowKit.intOf]; omega
          · obtain rfl : j = fresh.length := by omega
            by_cases hF : 0 < fresh.length
            · have f1 : decide ((0 : Int) < (fresh.length : Int)) = true := decide_eq_true (by omega)
              have f1' : decide (0 < fresh.length) = true := decide_eq_true (by omega)
              have HSy := Lib.hid (fun W h => r_sync (a := w0) (w := W) (d := d) (old := old) (n := n) (ks := ks) h hF h3 hjn2)
              by_cases hn1 : fresh.length < n
              · have HS2 : Hid (∀ W, RnLive w0 W d old fresh n ks fresh.length → Calls Try.prog 12 #[.pointer (some ⟨d, 0, none⟩), .string ⟨#[98]⟩] W fun e w' => e = .returned (.int .i64 0) ∧ RnSync w0 w' d old fresh n ks) := fun W h => (HSy.out W h).mono fun e w' hp => by
                  rcases hp with ⟨_, a, b⟩ | ⟨a, _⟩
                  · exact ⟨a, b⟩
                  · omega
                have HRn := Lib.hid (fun W h => r_rename (a := w0) (w := W) (d := d) (old := old) (n := n) (ks := ks) h hF h3 hn1)
                clear HSy
                by_cases hn2 : fresh.length + 1 < n
                · have HR2 : Hid (∀ W, RnSync w0 W d old fresh n ks → Calls Try.prog 23 #[.pointer (some ⟨d, 0, none⟩), .string ⟨#[98]⟩, .string ⟨#[97]⟩] W fun e w' => e = .returned (.int .i64 0) ∧ RnEnd w0 w' d fresh) := fun W h => (HRn.out W h).mono fun e w' hp => by
                    rcases hp with ⟨_, a, b⟩ | ⟨a, _⟩
                    · exact ⟨a, b⟩
                    · omega
                  clear HRn
                  have HSz : Hid (∀ W, RnOn true w0 W d fresh → Calls Try.prog 15 #[.pointer (some ⟨d, 0, none⟩), .string ⟨#[97]⟩] W fun e w' => e = .returned (.tuple #[.int .i64 (fresh.length : Nat), .int .i64 0]) ∧ RnOn true w0 w' d fresh) := fun W h => by
                    have H := r_size h
                    rw [if_pos (by omega)] at H
                    exact H
                  have z1 : ((fresh.length : Int) == 0) = false := beq_eq_false_iff_ne.2 (by omega)
                  have z2 : (fresh.length == 0) = false := beq_eq_false_iff_ne.2 (by omega)
                  have z3 : ((fresh.length : Int) != (fresh.length : Int)) = false := by simp
                  clear HW1 HS1 HAr HU HA HN
                  go_wp2_with (first
                    | (go_at_call 12; (with_reducible refine (HS2.out _ HL.out).mono ?_); rintro e w6 ⟨rfl, hq⟩; have HY := Lib.hid hq; clear hq)
                    | (go_at_call 23; (with_reducible refine (HR2.out _ HY.out).mono ?_); rintro e w6 ⟨rfl, hq⟩; have HE := Lib.hid hq; clear hq)
                    | (go_at_call 14; (with_reducible refine (r_restore HE.out).mono ?_); rintro e w7 ⟨rfl, hq⟩; have HX := Lib.hid hq; clear hq HE)
                    | (go_at_call 15; (with_reducible refine (HSz.out _ HX.out).mono ?_); rintro e w8 ⟨rfl, hq⟩; have HX := Lib.hid hq; clear hq))
                  go_loopw [16, 17, 18] (fun vi vs ve wr => ∃ i : Nat, i ≤ fresh.length ∧ vi = .int .i64 (i : Nat) ∧ Hid (RnOn true w0 wr d fresh)) (fun vi _ _ _ => fresh.length - (RowKit.intOf vi).toNat)
                  case atStart => exact ⟨0, Nat.zero_le _, rfl, HX⟩
                  case round =>
                    obtain ⟨i, hi, rfl, hq⟩ := hrel
                    clear HX
                    have HX := hq
                    clear hq
                    by_cases hiS : i < fresh.length
                    · obtain ⟨b, off, rfl, hcc⟩ := HBf.out wr (HB0.out.trans (HX.out.fr.mono HB0.out.size)) (by omega)
                      have hos := fun W => one_string W (fresh.getD i 0)
                      have HF2 := HF (fresh.getD i 0)
                      have HC5 : Hid (∀ w5, Below w0.heap.size w0 w5 → w5.cell? ⟨b, off + i, none⟩ = some (.int .i64 (fresh.getD i 0))) := fun w5 h5 => by
                        obtain ⟨b', off', e, hc5⟩ := HBf.out w5 (HB0.out.trans (h5.mono HB0.out.size)) (by omega)
                        simp only [Option.some.injEq, Addr.mk.injEq, and_true] at e
                        obtain ⟨rfl, rfl⟩ := e
                        exact hc5 i (by omega)
                      have HRd2 : Hid (∀ W, RnOn true w0 W d fresh → Calls Try.prog 16 #[.pointer (some ⟨d, 0, none⟩), .string ⟨#[97]⟩, .int .i64 i] W fun e w' => e = .returned (.tuple #[.string (qx (fresh.getD i 0)), .int .i64 0]) ∧ RnOn true w0 w' d fresh) := fun W h => r_read h hiS
                      have c1 := beq_text (rfl : qx (fresh.getD i 0) = qx (fresh.getD i 0))
                      generalize fresh.getD i 0 = x at hos HF2 HC5 HRd2 c1
                      generalize qx x = X at HF2 HRd2 c1
                      have i0 : (0 : Int) ≤ (i : Int) := by omega
                      have i1 : (i : Int) < (fresh.length : Int) := by omega
                      clear hcc HB HBf HF
                      go_wp2_with (first
                        | (go_at_call 16; (with_reducible refine (HRd2.out _ HX.out).mono ?_); rintro e w5 ⟨rfl, hq⟩; have HX := Lib.hid (hq.below (below_new w5 (.cells #[.int .u8 (x % 256)] 5))); have hos := hos w5; have hcell := (HC5.out w5 hq.fr))
                        | (go_at_call 11; (with_reducible refine (HF2.out _).mono ?_); rintro e w6 ⟨rfl, hb⟩; have HX := Lib.hid (HX.out.below hb); clear hb))
                      go_roundw
                      case rel => exact ⟨i + 1, by omega, by go_num, HX⟩
                      case measure => simp [RowKit.intOf]; omega
                    · have HY := HX
                      clear HX
                      obtain rfl : i = fresh.length := by omega
                      clear HB HBf HF
                      go_wp2
                      go_ret
                      exact ⟨rfl, HB0.out.trans (HY.out.fr.mono HB0.out.size)⟩
                · have HR2 : Hid (∀ W, RnSync w0 W d old fresh n ks → Calls Try.prog 23 #[.pointer (some ⟨d, 0, none⟩), .string ⟨#[98]⟩, .string ⟨#[97]⟩] W fun e w' => e = .returned (.int .i64 14) ∧ RnEnd w0 w' d old) := fun W h => (HRn.out W h).mono fun e w' hp => by
                    rcases hp with ⟨a, _⟩ | ⟨_, a, b⟩
                    · omega
                    · exact ⟨a, b⟩
                  clear HRn
                  have HSz : Hid (∀ W, RnOn true w0 W d old → Calls Try.prog 15 #[.pointer (some ⟨d, 0, none⟩), .string ⟨#[97]⟩] W fun e w' => e = .returned (.tuple #[.int .i64 (old.length : Nat), .int .i64 0]) ∧ RnOn true w0 w' d old) := fun W h => by
                    have H := r_size h
                    rw [if_pos (by omega)] at H
                    exact H
                  have z1 : ((old.length : Int) == 0) = false := beq_eq_false_iff_ne.2 (by omega)
                  have z2 : (old.length == 0) = false := beq_eq_false_iff_ne.2 (by omega)
                  have z3 : ((old.length : Int) != (old.length : Int)) = false := by simp
                  clear HW1 HS1 HAr HU HA HN
                  go_wp2_with (first
                    | (go_at_call 12; (with_reducible refine (HS2.out _ HL.out).mono ?_); rintro e w6 ⟨rfl, hq⟩; have HY := Lib.hid hq; clear hq)
                    | (go_at_call 23; (with_reducible refine (HR2.out _ HY.out).mono ?_); rintro e w6 ⟨rfl, hq⟩; have HE := Lib.hid hq; clear hq)
                    | (go_at_call 14; (with_reducible refine (r_restore HE.out).mono ?_); rintro e w7 ⟨rfl, hq⟩; have HX := Lib.hid hq; clear hq HE)
                    | (go_at_call 15; (with_reducible refine (HSz.out _ HX.out).mono ?_); rintro e w8 ⟨rfl, hq⟩; have HX := Lib.hid hq; clear hq))
                  go_loopw [16, 17, 18] (fun vi vs ve wr => ∃ i : Nat, i ≤ old.length ∧ vi = .int .i64 (i : Nat) ∧ Hid (RnOn true w0 wr d old)) (fun vi _ _ _ => old.length - (RowKit.intOf vi).toNat)
                  case atStart => exact ⟨0, Nat.zero_le _, rfl, HX⟩
                  case round =>
                    obtain ⟨i, hi, rfl, hq⟩ := hrel
                    clear HX
                    have HX := hq
                    clear hq
                    by_cases hiS : i < old.length
                    · obtain ⟨b, off, rfl, hcc⟩ := HB.out wr (HB0.out.trans (HX.out.fr.mono HB0.out.size)) (by omega)
                      have hos := fun W => one_string W (old.getD i 0)
                      have HF2 := HF (old.getD i 0)
                      have HC5 : Hid (∀ w5, Below w0.heap.size w0 w5 → w5.cell? ⟨b, off + i, none⟩ = some (.int .i64 (old.getD i 0))) := fun w5 h5 => by
                        obtain ⟨b', off', e, hc5⟩ := HB.out w5 (HB0.out.trans (h5.mono HB0.out.size)) (by omega)
                        simp only [Option.some.injEq, Addr.mk.injEq, and_true] at e
                        obtain ⟨rfl, rfl⟩ := e
                        exact hc5 i (by omega)
                      have HRd2 : Hid (∀ W, RnOn true w0 W d old → Calls Try.prog 16 #[.pointer (some ⟨d, 0, none⟩), .string ⟨#[97]⟩, .int .i64 i] W fun e w' => e = .returned (.tuple #[.string (qx (old.getD i 0)), .int .i64 0]) ∧ RnOn true w0 w' d old) := fun W h => r_read h hiS
                      have c1 := beq_text (rfl : qx (old.getD i 0) = qx (old.getD i 0))
                      generalize old.getD i 0 = x at hos HF2 HC5 HRd2 c1
                      generalize qx x = X at HF2 HRd2 c1
                      have i0 : (0 : Int) ≤ (i : Int) := by omega
                      have i1 : (i : Int) < (old.length : Int) := by omega
                      clear hcc HB HBf HF
                      go_wp2_with (first
                        | (go_at_call 16; (with_reducible refine (HRd2.out _ HX.out).mono ?_); rintro e w5 ⟨rfl, hq⟩; have HX := Lib.hid (hq.below (below_new w5 (.cells #[.int .u8 (x % 256)] 5))); have hos := hos w5; have hcell := (HC5.out w5 hq.fr))
                        | (go_at_call 11; (with_reducible refine (HF2.out _).mono ?_); rintro e w6 ⟨rfl, hb⟩; have HX := Lib.hid (HX.out.below hb); clear hb))
                      go_roundw
                      case rel => exact ⟨i + 1, by omega, by go_num, HX⟩
                      case measure => simp [RowKit.intOf]; omega
                    · have HY := HX
                      clear HX
                      obtain rfl : i = old.length := by omega
                      clear HB HBf HF
                      go_wp2
                      go_ret
                      exact ⟨rfl, HB0.out.trans (HY.out.fr.mono HB0.out.size)⟩
              · have HS2 : Hid (∀ W, RnLive w0 W d old fresh n ks fresh.length → Calls Try.prog 12 #[.pointer (some ⟨d, 0, none⟩), .string ⟨#[98]⟩] W fun e w' => e = .returned (.int .i64 14) ∧ RnEnd w0 w' d old) := fun W h => (HSy.out W h).mono fun e w' hp => by
                  rcases hp with ⟨a, _⟩ | ⟨_, a, b⟩
                  · omega
                  · exact ⟨a, b⟩
                clear HSy
                have HSz : Hid (∀ W, RnOn true w0 W d old → Calls Try.prog 15 #[.pointer (some ⟨d, 0, none⟩), .string ⟨#[97]⟩] W fun e w' => e = .returned (.tuple #[.int .i64 (old.length : Nat), .int .i64 0]) ∧ RnOn true w0 w' d old) := fun W h => by
                  have H := r_size h
                  rw [if_pos (by omega)] at H
                  exact H
                have z1 : ((old.length : Int) == 0) = false := beq_eq_false_iff_ne.2 (by omega)
                have z2 : (old.length == 0) = false := beq_eq_false_iff_ne.2 (by omega)
                have z3 : ((old.length : Int) != (old.length : Int)) = false := by simp
                clear HW1 HS1 HAr HU HA HN
                go_wp2_with (first
                  | (go_at_call 12; (with_reducible refine (HS2.out _ HL.out).mono ?_); rintro e w6 ⟨rfl, hq⟩; have HE := Lib.hid hq; clear hq)
                  | (go_at_call 14; (with_reducible refine (r_restore HE.out).mono ?_); rintro e w7 ⟨rfl, hq⟩; have HX := Lib.hid hq; clear hq HE)
                  | (go_at_call 15; (with_reducible refine (HSz.out _ HX.out).mono ?_); rintro e w8 ⟨rfl, hq⟩; have HX := Lib.hid hq; clear hq))
                go_loopw [16, 17, 18] (fun vi vs ve wr => ∃ i : Nat, i ≤ old.length ∧ vi = .int .i64 (i : Nat) ∧ Hid (RnOn true w0 wr d old)) (fun vi _ _ _ => old.length - (RowKit.intOf vi).toNat)
                case atStart => exact ⟨0, Nat.zero_le _, rfl, HX⟩
                case round =>
                  obtain ⟨i, hi, rfl, hq⟩ := hrel
                  clear HX
                  have HX := hq
                  clear hq
                  by_cases hiS : i < old.length
                  · obtain ⟨b, off, rfl, hcc⟩ := HB.out wr (HB0.out.trans (HX.out.fr.mono HB0.out.size)) (by omega)
                    have hos := fun W => one_string W (old.getD i 0)
                    have HF2 := HF (old.getD i 0)
                    have HC5 : Hid (∀ w5, Below w0.heap.size w0 w5 → w5.cell? ⟨b, off + i, none⟩ = some (.int .i64 (old.getD i 0))) := fun w5 h5 => by
                      obtain ⟨b', off', e, hc5⟩ := HB.out w5 (HB0.out.trans (h5.mono HB0.out.size)) (by omega)
                      simp only [Option.some.injEq, Addr.mk.injEq, and_true] at e
                      obtain ⟨rfl, rfl⟩ := e
                      exact hc5 i (by omega)
                    have HRd2 : Hid (∀ W, RnOn true w0 W d old → Calls Try.prog 16 #[.pointer (some ⟨d, 0, none⟩), .string ⟨#[97]⟩, .int .i64 i] W fun e w' => e = .returned (.tuple #[.string (qx (old.getD i 0)), .int .i64 0]) ∧ RnOn true w0 w' d old) := fun W h => r_read h hiS
                    have c1 := beq_text (rfl : qx (old.getD i 0) = qx (old.getD i 0))
                    generalize old.getD i 0 = x at hos HF2 HC5 HRd2 c1
                    generalize qx x = X at HF2 HRd2 c1
                    have i0 : (0 : Int) ≤ (i : Int) := by omega
                    have i1 : (i : Int) < (old.length : Int) := by omega
                    clear hcc HB HBf HF
                    go_wp2_with (first
                      | (go_at_call 16; (with_reducible refine (HRd2.out _ HX.out).mono ?_); rintro e w5 ⟨rfl, hq⟩; have HX := Lib.hid (hq.below (below_new w5 (.cells #[.int .u8 (x % 256)] 5))); have hos := hos w5; have hcell := (HC5.out w5 hq.fr))
                      | (go_at_call 11; (with_reducible refine (HF2.out _).mono ?_); rintro e w6 ⟨rfl, hb⟩; have HX := Lib.hid (HX.out.below hb); clear hb))
                    go_roundw
                    case rel => exact ⟨i + 1, by omega, by go_num, HX⟩
                    case measure => simp [RowKit.intOf]; omega
                  · have HY := HX
                    clear HX
                    obtain rfl : i = old.length := by omega
                    clear HB HBf HF
                    go_wp2
                    go_ret
                    exact ⟨rfl, HB0.out.trans (HY.out.fr.mono HB0.out.size)⟩
            · have f1 : decide ((0 : Int) < (fresh.length : Int)) = false := decide_eq_false (by omega)
              have f1' : decide (0 < fresh.length) = false := decide_eq_false (by omega)
              have HE := Lib.hid HL.out.end'
              clear HL
              have HSz : Hid (∀ W, RnOn true w0 W d old → Calls Try.prog 15 #[.pointer (some ⟨d, 0, none⟩), .string ⟨#[97]⟩] W fun e w' => e = .returned (.tuple #[.int .i64 (old.length : Nat), .int .i64 0]) ∧ RnOn true w0 w' d old) := fun W h => by
                have H := r_size h
                rw [if_pos (by omega)] at H
                exact H
              have z1 : ((old.length : Int) == 0) = false := beq_eq_false_iff_ne.2 (by omega)
              have z2 : (old.length == 0) = false := beq_eq_false_iff_ne.2 (by omega)
              have z3 : ((old.length : Int) != (old.length : Int)) = false := by simp
              clear HW1 HS1 HAr HU HA HN
              go_wp2_with (first
                | (go_at_call 14; (with_reducible refine (r_restore HE.out).mono ?_); rintro e w7 ⟨rfl, hq⟩; have HX := Lib.hid hq; clear hq HE)
                | (go_at_call 15; (with_reducible refine (HSz.out _ HX.out).mono ?_); rintro e w8 ⟨rfl, hq⟩; have HX := Lib.hid hq; clear hq))
              go_loopw [16, 17, 18] (fun vi vs ve wr => ∃ i : Nat, i ≤ old.length ∧ vi = .int .i64 (i : Nat) ∧ Hid (RnOn true w0 wr d old)) (fun vi _ _ _ => old.length - (RowKit.intOf vi).toNat)
              case atStart => exact ⟨0, Nat.zero_le _, rfl, HX⟩
              case round =>
                obtain ⟨i, hi, rfl, hq⟩ := hrel
                clear HX
                have HX := hq
                clear hq
                by_cases hiS : i < old.length
                · obtain ⟨b, off, rfl, hcc⟩ := HB.out wr (HB0.out.trans (HX.out.fr.mono HB0.out.size)) (by omega)
                  have hos := fun W => one_string W (old.getD i 0)
                  have HF2 := HF (old.getD i 0)
                  have HC5 : Hid (∀ w5, Below w0.heap.size w0 w5 → w5.cell? ⟨b, off + i, none⟩ = some (.int .i64 (old.getD i 0))) := fun w5 h5 => by
                    obtain ⟨b', off', e, hc5⟩ := HB.out w5 (HB0.out.trans (h5.mono HB0.out.size)) (by omega)
                    simp only [Option.some.injEq, Addr.mk.injEq, and_true] at e
                    obtain ⟨rfl, rfl⟩ := e
                    exact hc5 i (by omega)
                  have HRd2 : Hid (∀ W, RnOn true w0 W d old → Calls Try.prog 16 #[.pointer (some ⟨d, 0, none⟩), .string ⟨#[97]⟩, .int .i64 i] W fun e w' => e = .returned (.tuple #[.string (qx (old.getD i 0)), .int .i64 0]) ∧ RnOn true w0 w' d old) := fun W h => r_read h hiS
                  have c1 := beq_text (rfl : qx (old.getD i 0) = qx (old.getD i 0))
                  generalize old.getD i 0 = x at hos HF2 HC5 HRd2 c1
                  generalize qx x = X at HF2 HRd2 c1
                  have i0 : (0 : Int) ≤ (i : Int) := by omega
                  have i1 : (i : Int) < (old.length : Int) := by omega
                  clear hcc HB HBf HF
                  go_wp2_with (first
                    | (go_at_call 16; (with_reducible refine (HRd2.out _ HX.out).mono ?_); rintro e w5 ⟨rfl, hq⟩; have HX := Lib.hid (hq.below (below_new w5 (.cells #[.int .u8 (x % 256)] 5))); have hos := hos w5; have hcell := (HC5.out w5 hq.fr))
                    | (go_at_call 11; (with_reducible refine (HF2.out _).mono ?_); rintro e w6 ⟨rfl, hb⟩; have HX := Lib.hid (HX.out.below hb); clear hb))
                  go_roundw
                  case rel => exact ⟨i + 1, by omega, by go_num, HX⟩
                  case measure => simp [RowKit.intOf]; omega
                · have HY := HX
                  clear HX
                  obtain rfl : i = old.length := by omega
                  clear HB HBf HF
                  go_wp2
                  go_ret
                  exact ⟨rfl, HB0.out.trans (HY.out.fr.mono HB0.out.size)⟩
        · have HE := hq
          clear hq
          by_cases hjF : j < fresh.length
          · have i1 : decide ((j : Int) < (fresh.length : Int)) = true := decide_eq_true (by omega)
            have i1' : decide (j < fresh.length) = true := decide_eq_true (by omega)
            have HSz : Hid (∀ W, RnOn true w0 W d old → Calls Try.prog 15 #[.pointer (some ⟨d, 0, none⟩), .string ⟨#[97]⟩] W fun e w' => e = .returned (.tuple #[.int .i64 (old.length : Nat), .int .i64 0]) ∧ RnOn true w0 w' d old) := fun W h => by
              have H := r_size h
              rw [if_pos (by omega)] at H
              exact H
            have z1 : ((old.length : Int) == 0) = false := beq_eq_false_iff_ne.2 (by omega)
            have z2 : (old.length == 0) = false := beq_eq_false_iff_ne.2 (by omega)
            have z3 : ((old.length : Int) != (old.length : Int)) = false := by simp
            clear HW1 HS1 HAr HU HA HN
            go_wp2_with (first
              | (go_at_call 14; (with_reducible refine (r_restore HE.out).mono ?_); rintro e w7 ⟨rfl, hq⟩; have HX := Lib.hid hq; clear hq HE)
              | (go_at_call 15; (with_reducible refine (HSz.out _ HX.out).mono ?_); rintro e w8 ⟨rfl, hq⟩; have HX := Lib.hid hq; clear hq))
            go_loopw [16, 17, 18] (fun vi vs ve wr => ∃ i : Nat, i ≤ old.length ∧ vi = .int .i64 (i : Nat) ∧ Hid (RnOn true w0 wr d old)) (fun vi _ _ _ => old.length - (RowKit.intOf vi).toNat)
            case atStart => exact ⟨0, Nat.zero_le _, rfl, HX⟩
            case round =>
              obtain ⟨i, hi, rfl, hq⟩ := hrel
              clear HX
              have HX := hq
              clear hq
              by_cases hiS : i < old.length
              · obtain ⟨b, off, rfl, hcc⟩ := HB.out wr (HB0.out.trans (HX.out.fr.mono HB0.out.size)) (by omega)
                have hos := fun W => one_string W (old.getD i 0)
                have HF2 := HF (old.getD i 0)
                have HC5 : Hid (∀ w5, Below w0.heap.size w0 w5 → w5.cell? ⟨b, off + i, none⟩ = some (.int .i64 (old.getD i 0))) := fun w5 h5 => by
                  obtain ⟨b', off', e, hc5⟩ := HB.out w5 (HB0.out.trans (h5.mono HB0.out.size)) (by omega)
                  simp only [Option.some.injEq, Addr.mk.injEq, and_true] at e
                  obtain ⟨rfl, rfl⟩ := e
                  exact hc5 i (by omega)
                have HRd2 : Hid (∀ W, RnOn true w0 W d old → Calls Try.prog 16 #[.pointer (some ⟨d, 0, none⟩), .string ⟨#[97]⟩, .int .i64 i] W fun e w' => e = .returned (.tuple #[.string (qx (old.getD i 0)), .int .i64 0]) ∧ RnOn true w0 w' d old) := fun W h => r_read h hiS
                have c1 := beq_text (rfl : qx (old.getD i 0) = qx (old.getD i 0))
                generalize old.getD i 0 = x at hos HF2 HC5 HRd2 c1
                generalize qx x = X at HF2 HRd2 c1
                have i0 : (0 : Int) ≤ (i : Int) := by omega
                have i1 : (i : Int) < (old.length : Int) := by omega
                clear hcc HB HBf HF
                go_wp2_with (first
                  | (go_at_call 16; (with_reducible refine (HRd2.out _ HX.out).mono ?_); rintro e w5 ⟨rfl, hq⟩; have HX := Lib.hid (hq.below (below_new w5 (.cells #[.int .u8 (x % 256)] 5))); have hos := hos w5; have hcell := (HC5.out w5 hq.fr))
                  | (go_at_call 11; (with_reducible refine (HF2.out _).mono ?_); rintro e w6 ⟨rfl, hb⟩; have HX := Lib.hid (HX.out.below hb); clear hb))
                go_roundw
                case rel => exact ⟨i + 1, by omega, by go_num, HX⟩
                case measure => simp [RowKit.intOf]; omega
              · have HY := HX
                clear HX
                obtain rfl : i = old.length := by omega
                clear HB HBf HF
                go_wp2
                go_ret
                exact ⟨rfl, HB0.out.trans (HY.out.fr.mono HB0.out.size)⟩
          · have i1 : decide ((j : Int) < (fresh.length : Int)) = false := decide_eq_false (by omega)
            have i1' : decide (j < fresh.length) = false := decide_eq_false (by omega)
            have HSz : Hid (∀ W, RnOn true w0 W d old → Calls Try.prog 15 #[.pointer (some ⟨d, 0, none⟩), .string ⟨#[97]⟩] W fun e w' => e = .returned (.tuple #[.int .i64 (old.length : Nat), .int .i64 0]) ∧ RnOn true w0 w' d old) := fun W h => by
              have H := r_size h
              rw [if_pos (by omega)] at H
              exact H
            have z1 : ((old.length : Int) == 0) = false := beq_eq_false_iff_ne.2 (by omega)
            have z2 : (old.length == 0) = false := beq_eq_false_iff_ne.2 (by omega)
            have z3 : ((old.length : Int) != (old.length : Int)) = false := by simp
            clear HW1 HS1 HAr HU HA HN
            go_wp2_with (first
              | (go_at_call 14; (with_reducible refine (r_restore HE.out).mono ?_); rintro e w7 ⟨rfl, hq⟩; have HX := Lib.hid hq; clear hq HE)
              | (go_at_call 15; (with_reducible refine (HSz.out _ HX.out).mono ?_); rintro e w8 ⟨rfl, hq⟩; have HX := Lib.hid hq; clear hq))
            go_loopw [16, 17, 18] (fun vi vs ve wr => ∃ i : Nat, i ≤ old.length ∧ vi = .int .i64 (i : Nat) ∧ Hid (RnOn true w0 wr d old)) (fun vi _ _ _ => old.length - (RowKit.intOf vi).toNat)
            case atStart => exact ⟨0, Nat.zero_le _, rfl, HX⟩
            case round =>
              obtain ⟨i, hi, rfl, hq⟩ := hrel
              clear HX
              have HX := hq
              clear hq
              by_cases hiS : i < old.length
              · obtain ⟨b, off, rfl, hcc⟩ := HB.out wr (HB0.out.trans (HX.out.fr.mono HB0.out.size)) (by omega)
                have hos := fun W => one_string W (old.getD i 0)
                have HF2 := HF (old.getD i 0)
                have HC5 : Hid (∀ w5, Below w0.heap.size w0 w5 → w5.cell? ⟨b, off + i, none⟩ = some (.int .i64 (old.getD i 0))) := fun w5 h5 => by
                  obtain ⟨b', off', e, hc5⟩ := HB.out w5 (HB0.out.trans (h5.mono HB0.out.size)) (by omega)
                  simp only [Option.some.injEq, Addr.mk.injEq, and_true] at e
                  obtain ⟨rfl, rfl⟩ := e
                  exact hc5 i (by omega)
                have HRd2 : Hid (∀ W, RnOn true w0 W d old → Calls Try.prog 16 #[.pointer (some ⟨d, 0, none⟩), .string ⟨#[97]⟩, .int .i64 i] W fun e w' => e = .returned (.tuple #[.string (qx (old.getD i 0)), .int .i64 0]) ∧ RnOn true w0 w' d old) := fun W h => r_read h hiS
                have c1 := beq_text (rfl : qx (old.getD i 0) = qx (old.getD i 0))
                generalize old.getD i 0 = x at hos HF2 HC5 HRd2 c1
                generalize qx x = X at HF2 HRd2 c1
                have i0 : (0 : Int) ≤ (i : Int) := by omega
                have i1 : (i : Int) < (old.length : Int) := by omega
                clear hcc HB HBf HF
                go_wp2_with (first
                  | (go_at_call 16; (with_reducible refine (HRd2.out _ HX.out).mono ?_); rintro e w5 ⟨rfl, hq⟩; have HX := Lib.hid (hq.below (below_new w5 (.cells #[.int .u8 (x % 256)] 5))); have hos := hos w5; have hcell := (HC5.out w5 hq.fr))
                  | (go_at_call 11; (with_reducible refine (HF2.out _).mono ?_); rintro e w6 ⟨rfl, hb⟩; have HX := Lib.hid (HX.out.below hb); clear hb))
                go_roundw
                case rel => exact ⟨i + 1, by omega, by go_num, HX⟩
                case measure => simp [RowKit.intOf]; omega
              · have HY := HX
                clear HX
                obtain rfl : i = old.length := by omega
                clear HB HBf HF
                go_wp2
                go_ret
                exact ⟨rfl, HB0.out.trans (HY.out.fr.mono HB0.out.size)⟩

set_option maxRecDepth 100000 in
set_option maxHeartbeats 16000000 in
theorem ren_in0 (w : World) (v1 v2 u : Value) (old fresh ks : List Int) (n : Nat) (hv : IntsIn w v1 old) (hf : IntsIn w v2 fresh) (hu : IntsK w u ks) (h1 : old.length ≤ 12) (h2 : fresh.length ≤ 12) (h3 : n ≤ 30) (h4 : ks.length ≤ 40) (hN : ¬ 0 < old.length) :
    Calls Try.prog 6 #[v1, v2, .int .i64 n, u] w fun e w' => e = .returned (.bool true) ∧ Below w.heap.size w w' := by
  have HA := Lib.hid (fun w => alive_any4 w)
  have HN := Lib.hid (fun w => qd_new w)
  have HF := fun x => Lib.hid (fun w => fill_byte w x)
  have HU := Lib.hid (fun w0 (hb : Below w.heap.size w w0) => (hu.below hb).keep (by omega))
  obtain ⟨a, c, rfl, -, -⟩ := id hv
  obtain ⟨af, cf, rfl, -, -⟩ := id hf
  obtain ⟨⟨a2, c2, rfl, -, -⟩, -⟩ := id hu
  have HB := Lib.hid (ints_kept hv)
  have HBf := Lib.hid (ints_kept hf)
  have HW1 : Hid (∀ w0 W d j, QD true w0 W d j (lasts sA.data.toList (qsL old) 0 j) → j < old.length → Calls Try.prog 10 #[.pointer (some ⟨d, 0, none⟩), .string ⟨#[97]⟩, .int .i64 j, .string (qx (old.getD j 0))] W fun e w' => e = .returned (.int .i64 0) ∧ QD true w0 w' d (j + 1) (lasts sA.data.toList (qsL old) 0 (j + 1))) := fun w0 W d j h b => l_write (s := sA) rfl h (Nat.zero_le _) b (by omega)
  have HS1 : Hid (∀ w0 W d, QD true w0 W d old.length (lasts sA.data.toList (qsL old) 0 old.length) → 0 < old.length → Calls Try.prog 12 #[.pointer (some ⟨d, 0, none⟩), .string ⟨#[97]⟩] W fun e w' => e = .returned (.int .i64 0) ∧ QD true w0 w' d old.length (lasts sA.data.toList (qsL old) old.length old.length)) := fun w0 W d h a => l_sync (s := sA) rfl h a
  have HAr : Hid (∀ w0 W d, QD true w0 W d old.length (lasts sA.data.toList (qsL old) old.length old.length) → Below w.heap.size w w0 → Calls Try.prog 19 #[.pointer (some ⟨d, 0, none⟩), .int .i64 n, .slice a2 ks.length c2] W fun e w' => e = .returned (.tuple #[]) ∧ RnLive w0 w' d old fresh n ks 0) := fun w0 W d h hb => r_arm n h (HU.out w0 hb)
  clear hv hf hu
  have k1 : decide ((12 : Int) < (old.length : Int)) = false := decide_eq_false (by omega)
  have k1' : decide (12 < old.length) = false := decide_eq_false (by omega)
  have k2 : decide ((12 : Int) < (fresh.length : Int)) = false := decide_eq_false (by omega)
  have k2' : decide (12 < fresh.length) = false := decide_eq_false (by omega)
  have k3 : decide ((n : Int) < 0) = false := decide_eq_false (by omega)
  have k4 : decide ((30 : Int) < (n : Int)) = false := decide_eq_false (by omega)
  have k4' : decide (30 < n) = false := decide_eq_false (by omega)
  have k5 : decide ((40 : Int) < (ks.length : Int)) = false := decide_eq_false (by omega)
  have k5' : decide (40 < ks.length) = false := decide_eq_false (by omega)
  go_enter Try.func6, Try.ntmps6
  go_wp2_with (first
    | (go_at_call 8; (with_reducible refine (HA.out _).mono ?_); rintro e w0 ⟨rfl, hb0⟩; have HB0 := Lib.hid hb0; clear hb0)
    | (go_at_call 9; (with_reducible refine (HN.out _).mono ?_); rintro e w1 ⟨rfl, hq⟩; have HQ := Lib.hid hq; clear hq))
  obtain ⟨d, hd⟩ : ∃ d, d = w0.heap.size := ⟨_, rfl⟩
  rw [← hd] at HQ ⊢
  clear hd k1 k1' k2 k2' k3 k4 k4' k5 k5'
  go_loopw [10] (fun i wr => ∃ j : Nat, j ≤ old.length ∧ i = .int .i64 j ∧ Hid (QD true w0 wr d j (lasts sA.data.toList (qsL old) 0 j))) (fun i _ => old.length - (RowKit.intOf i).toNat)
  case atStart => exact ⟨0, Nat.zero_le _, rfl, HQ⟩
  case round =>
    obtain ⟨j, hj, rfl, hq⟩ := hrel
    clear HQ
    have HQ := hq
    clear hq
    by_cases hjn : j < old.length
    · exact absurd hjn (by omega)
    · obtain rfl : j = old.length := by omega
      have o1 : decide ((0 : Int) < (old.length : Int)) = false := decide_eq_false (by omega)
      have o1' : decide (0 < old.length) = false := decide_eq_false (by omega)
      have HQ := Lib.hid (show QD true w0 wr d old.length (lasts sA.data.toList (qsL old) old.length old.length) from by
        have e : old.length = 0 := by omega
        have h := HQ.out
        rw [e] at h ⊢
        exact h)
      go_wp2_with (first
        | (go_at_call 19; (with_reducible refine (HAr.out _ _ _ HQ.out HB0.out).mono ?_); rintro e w5 ⟨rfl, hq⟩; have HL := Lib.hid hq; clear hq))
      clear HQ
      go_loopw [11, 12] (fun ve vi wr => ∃ j : Nat, j ≤ fresh.length ∧ vi = .int .i64 j ∧ ((ve = .int .i64 0 ∧ j ≤ n ∧ Hid (RnLive w0 wr d old fresh n ks j)) ∨ (ve = .int .i64 14 ∧ Hid (RnEnd w0 wr d old)))) (fun _ vi _ => fresh.length - (RowKit.intOf vi).toNat)
      case atStart => exact ⟨0, Nat.zero_le _, rfl, .inl ⟨rfl, Nat.zero_le _, HL⟩⟩
      case round =>
        obtain ⟨j, hj, rfl, hst⟩ := hrel
        clear HL
        rcases hst with ⟨rfl, hjn2, hq⟩ | ⟨rfl, hq⟩
        · have HL := hq
          clear hq
          by_cases hjF : j < fresh.length
          · obtain ⟨b, off, rfl, hcc⟩ := HBf.out wr (HB0.out.trans (HL.out.fr.mono HB0.out.size)) (by omega)
            have hcell := hcc j hjF
            have hos := one_string wr (fresh.getD j 0)
            have HW2 := Lib.hid (fun W h => r_write (a := w0) (w := W) (d := d) (old := old) (n := n) (ks := ks) h hjF h2 h1 h3 hjn2)
            have HF2 := HF (fresh.getD j 0)
            have HL2 := Lib.hid (HL.out.below (below_new wr (.cells #[.int .u8 (fresh.getD j 0 % 256)] 5)))
            generalize fresh.getD j 0 = x at hcell hos HW2 HF2 HL2
            have i0 : (0 : Int) ≤ (j : Int) := by omega
            have i1 : (j : Int) < (fresh.length : Int) := by omega
            clear hcc HB HBf HA HN HU HAr HS1 HW1
            by_cases hjn3 : j < n
            · have HW3 : Hid (∀ W, RnLive w0 W d old fresh n ks j → Calls Try.prog 10 #[.pointer (some ⟨d, 0, none⟩), .string ⟨#[98]⟩, .int .i64 j, .string (qx x)] W fun e w' => e = .returned (.int .i64 0) ∧ RnLive w0 w' d old fresh n ks (j + 1)) := fun W h => (HW2.out W h).mono fun e w' hp => by
                rcases hp with ⟨_, a, b⟩ | ⟨a, _⟩
                · exact ⟨a, b⟩
                · omega
              clear HW2
              go_wp2_with (first
                | (go_at_call 11; (with_reducible refine (HF2.out _).mono ?_); rintro e w2 ⟨rfl, hb⟩; have HL := Lib.hid (HL2.out.below hb); clear hb)
                | (go_at_call 10; (with_reducible refine (HW3.out _ HL.out).mono ?_); rintro e w3 ⟨rfl, hq⟩; have HL := Lib.hid hq; clear hq))
              go_roundw
              case rel => exact ⟨j + 1, by omega, by go_num, .inl ⟨rfl, by omega, HL⟩⟩
              case measure => simp [RowKit.intOf]; omega
            · have HW3 : Hid (∀ W, RnLive w0 W d old fresh n ks j → Calls Try.prog 10 #[.pointer (some ⟨d, 0, none⟩), .string ⟨#[98]⟩, .int .i64 j, .string (qx x)] W fun e w' => e = .returned (.int .i64 14) ∧ RnEnd w0 w' d old) := fun W h => (HW2.out W h).mono fun e w' hp => by
                rcases hp with ⟨a, _⟩ | ⟨_, a, b⟩
                · omega
                · exact ⟨a, b⟩
              clear HW2
              go_wp2_with (first
                | (go_at_call 11; (with_reducible refine (HF2.out _).mono ?_); rintro e w2 ⟨rfl, hb⟩; have HL := Lib.hid (HL2.out.below hb); clear hb)
                | (go_at_call 10; (with_reducible refine (HW3.out _ HL.out).mono ?_); rintro e w3 ⟨rfl, hq⟩; have HE := Lib.hid hq; clear hq))
              go_roundw
              case rel => exact ⟨j + 1, by omega, by go_num, .inr ⟨rfl, HE⟩⟩
              case measure => simp [RowKit.intOf]; omega
          · obtain rfl : j = fresh.length := by omega
            by_cases hF : 0 < fresh.length
            · have f1 : decide ((0 : Int) < (fresh.length : Int)) = true := decide_eq_true (by omega)
              have f1' : decide (0 < fresh.length) = true := decide_eq_true (by omega)
              have HSy := Lib.hid (fun W h => r_sync (a := w0) (w := W) (d := d) (old := old) (n := n) (ks := ks) h hF h3 hjn2)
              by_cases hn1 : fresh.length < n
              · have HS2 : Hid (∀ W, RnLive w0 W d old fresh n ks fresh.length → Calls Try.prog 12 #[.pointer (some ⟨d, 0, none⟩), .string ⟨#[98]⟩] W fun e w' => e = .returned (.int .i64 0) ∧ RnSync w0 w' d old fresh n ks) := fun W h => (HSy.out W h).mono fun e w' hp => by
                  rcases hp with ⟨_, a, b⟩ | ⟨a, _⟩
                  · exact ⟨a, b⟩
                  · omega
                have HRn := Lib.hid (fun W h => r_rename (a := w0) (w := W) (d := d) (old := old) (n := n) (ks := ks) h hF h3 hn1)
                clear HSy
                by_cases hn2 : fresh.length + 1 < n
                · have HR2 : Hid (∀ W, RnSync w0 W d old fresh n ks → Calls Try.prog 23 #[.pointer (some ⟨d, 0, none⟩), .string ⟨#[98]⟩, .string ⟨#[97]⟩] W fun e w' => e = .returned (.int .i64 0) ∧ RnEnd w0 w' d fresh) := fun W h => (HRn.out W h).mono fun e w' hp => by
                    rcases hp with ⟨_, a, b⟩ | ⟨a, _⟩
                    · exact ⟨a, b⟩
                    · omega
                  clear HRn
                  have HSz : Hid (∀ W, RnOn true w0 W d fresh → Calls Try.prog 15 #[.pointer (some ⟨d, 0, none⟩), .string ⟨#[97]⟩] W fun e w' => e = .returned (.tuple #[.int .i64 (fresh.length : Nat), .int .i64 0]) ∧ RnOn true w0 w' d fresh) := fun W h => by
                    have H := r_size h
                    rw [if_pos (by omega)] at H
                    exact H
                  have z1 : ((fresh.length : Int) == 0) = false := beq_eq_false_iff_ne.2 (by omega)
                  have z2 : (fresh.length == 0) = false := beq_eq_false_iff_ne.2 (by omega)
                  have z3 : ((fresh.length : Int) != (fresh.length : Int)) = false := by simp
                  clear HW1 HS1 HAr HU HA HN
                  go_wp2_with (first
                    | (go_at_call 12; (with_reducible refine (HS2.out _ HL.out).mono ?_); rintro e w6 ⟨rfl, hq⟩; have HY := Lib.hid hq; clear hq)
                    | (go_at_call 23; (with_reducible refine (HR2.out _ HY.out).mono ?_); rintro e w6 ⟨rfl, hq⟩; have HE := Lib.hid hq; clear hq)
                    | (go_at_call 14; (with_reducible refine (r_restore HE.out).mono ?_); rintro e w7 ⟨rfl, hq⟩; have HX := Lib.hid hq; clear hq HE)
                    | (go_at_call 15; (with_reducible refine (HSz.out _ HX.out).mono ?_); rintro e w8 ⟨rfl, hq⟩; have HX := Lib.hid hq; clear hq))
                  go_loopw [16, 17, 18] (fun vi vs ve wr => ∃ i : Nat, i ≤ fresh.length ∧ vi = .int .i64 (i : Nat) ∧ Hid (RnOn true w0 wr d fresh)) (fun vi _ _ _ => fresh.length - (RowKit.intOf vi).toNat)
                  case atStart => exact ⟨0, Nat.zero_le _, rfl, HX⟩
                  case round =>
                    obtain ⟨i, hi, rfl, hq⟩ := hrel
                    clear HX
                    have HX := hq
                    clear hq
                    by_cases hiS : i < fresh.length
                    · obtain ⟨b, off, rfl, hcc⟩ := HBf.out wr (HB0.out.trans (HX.out.fr.mono HB0.out.size)) (by omega)
                      have hos := fun W => one_string W (fresh.getD i 0)
                      have HF2 := HF (fresh.getD i 0)
                      have HC5 : Hid (∀ w5, Below w0.heap.size w0 w5 → w5.cell? ⟨b, off + i, none⟩ = some (.int .i64 (fresh.getD i 0))) := fun w5 h5 => by
                        obtain ⟨b', off', e, hc5⟩ := HBf.out w5 (HB0.out.trans (h5.mono HB0.out.size)) (by omega)
                        simp only [Option.some.injEq, Addr.mk.injEq, and_true] at e
                        obtain ⟨rfl, rfl⟩ := e
                        exact hc5 i (by omega)
                      have HRd2 : Hid (∀ W, RnOn true w0 W d fresh → Calls Try.prog 16 #[.pointer (some ⟨d, 0, none⟩), .string ⟨#[97]⟩, .int .i64 i] W fun e w' => e = .returned (.tuple #[.string (qx (fresh.getD i 0)), .int .i64 0]) ∧ RnOn true w0 w' d fresh) := fun W h => r_read h hiS
                      have c1 := beq_text (rfl : qx (fresh.getD i 0) = qx (fresh.getD i 0))
                      generalize fresh.getD i 0 = x at hos HF2 HC5 HRd2 c1
                      generalize qx x = X at HF2 HRd2 c1
                      have i0 : (0 : Int) ≤ (i : Int) := by omega
                      have i1 : (i : Int) < (fresh.length : Int) := by omega
                      clear hcc HB HBf HF
                      go_wp2_with (first
                        | (go_at_call 16; (with_reducible refine (HRd2.out _ HX.out).mono ?_); rintro e w5 ⟨rfl, hq⟩; have HX := Lib.hid (hq.below (below_new w5 (.cells #[.int .u8 (x % 256)] 5))); have hos := hos w5; have hcell := (HC5.out w5 hq.fr))
                        | (go_at_call 11; (with_reducible refine (HF2.out _).mono ?_); rintro e w6 ⟨rfl, hb⟩; have HX := Lib.hid (HX.out.below hb); clear hb))
                      go_roundw
                      case rel => exact ⟨i + 1, by omega, by go_num, HX⟩
                      case measure => simp [RowKit.intOf]; omega
                    · have HY := HX
                      clear HX
                      obtain rfl : i = fresh.length := by omega
                      clear HB HBf HF
                      go_wp2
                      go_ret
                      exact ⟨rfl, HB0.out.trans (HY.out.fr.mono HB0.out.size)⟩
                · have HR2 : Hid (∀ W, RnSync w0 W d old fresh n ks → Calls Try.prog 23 #[.pointer (some ⟨d, 0, none⟩), .string ⟨#[98]⟩, .string ⟨#[97]⟩] W fun e w' => e = .returned (.int .i64 14) ∧ RnEnd w0 w' d old) := fun W h => (HRn.out W h).mono fun e w' hp => by
                    rcases hp with ⟨a, _⟩ | ⟨_, a, b⟩
                    · omega
                    · exact ⟨a, b⟩
                  clear HRn
                  have HSz : Hid (∀ W, RnOn true w0 W d old → Calls Try.prog 15 #[.pointer (some ⟨d, 0, none⟩), .string ⟨#[97]⟩] W fun e w' => e = .returned (.tuple #[.int .i64 (old.length : Nat), .int .i64 8]) ∧ RnOn true w0 w' d old) := fun W h => by
                    have H := r_size h
                    rw [if_neg (by omega)] at H
                    exact H
                  have z1 : ((old.length : Int) == 0) = true := beq_iff_eq.2 (by omega)
                  have z2 : (old.length == 0) = true := beq_iff_eq.2 (by omega)
                  have z3 : ((old.length : Int) != (old.length : Int)) = false := by simp
                  clear HW1 HS1 HAr HU HA HN
                  go_wp2_with (first
                    | (go_at_call 12; (with_reducible refine (HS2.out _ HL.out).mono ?_); rintro e w6 ⟨rfl, hq⟩; have HY := Lib.hid hq; clear hq)
                    | (go_at_call 23; (with_reducible refine (HR2.out _ HY.out).mono ?_); rintro e w6 ⟨rfl, hq⟩; have HE := Lib.hid hq; clear hq)
                    | (go_at_call 14; (with_reducible refine (r_restore HE.out).mono ?_); rintro e w7 ⟨rfl, hq⟩; have HX := Lib.hid hq; clear hq HE)
                    | (go_at_call 15; (with_reducible refine (HSz.out _ HX.out).mono ?_); rintro e w8 ⟨rfl, hq⟩; have HX := Lib.hid hq; clear hq))
                  go_ret
                  exact ⟨rfl, HB0.out.trans (HX.out.fr.mono HB0.out.size)⟩
              · have HS2 : Hid (∀ W, RnLive w0 W d old fresh n ks fresh.length → Calls Try.prog 12 #[.pointer (some ⟨d, 0, none⟩), .string ⟨#[98]⟩] W fun e w' => e = .returned (.int .i64 14) ∧ RnEnd w0 w' d old) := fun W h => (HSy.out W h).mono fun e w' hp => by
                  rcases hp with ⟨a, _⟩ | ⟨_, a, b⟩
                  · omega
                  · exact ⟨a, b⟩
                clear HSy
                have HSz : Hid (∀ W, RnOn true w0 W d old → Calls Try.prog 15 #[.pointer (some ⟨d, 0, none⟩), .string ⟨#[97]⟩] W fun e w' => e = .returned (.tuple #[.int .i64 (old.length : Nat), .int .i64 8]) ∧ RnOn true w0 w' d old) := fun W h => by
                  have H := r_size h
                  rw [if_neg (by omega)] at H
                  exact H
                have z1 : ((old.length : Int) == 0) = true := beq_iff_eq.2 (by omega)
                have z2 : (old.length == 0) = true := beq_iff_eq.2 (by omega)
                have z3 : ((old.length : Int) != (old.length : Int)) = false := by simp
                clear HW1 HS1 HAr HU HA HN
                go_wp2_with (first
                  | (go_at_call 12; (with_reducible refine (HS2.out _ HL.out).mono ?_); rintro e w6 ⟨rfl, hq⟩; have HE := Lib.hid hq; clear hq)
                  | (go_at_call 14; (with_reducible refine (r_restore HE.out).mono ?_); rintro e w7 ⟨rfl, hq⟩; have HX := Lib.hid hq; clear hq HE)
                  | (go_at_call 15; (with_reducible refine (HSz.out _ HX.out).mono ?_); rintro e w8 ⟨rfl, hq⟩; have HX := Lib.hid hq; clear hq))
                go_ret
                exact ⟨rfl, HB0.out.trans (HX.out.fr.mono HB0.out.size)⟩
            · have f1 : decide ((0 : Int) < (fresh.length : Int)) = false := decide_eq_false (by omega)
              have f1' : decide (0 < fresh.length) = false := decide_eq_false (by omega)
              have HE := Lib.hid HL.out.end'
              clear HL
              have HSz : Hid (∀ W, RnOn true w0 W d old → Calls Try.prog 15 #[.pointer (some ⟨d, 0, none⟩), .string ⟨#[97]⟩] W fun e w' => e = .returned (.tuple #[.int .i64 (old.length : Nat), .int .i64 8]) ∧ RnOn true w0 w' d old) := fun W h => by
                have H := r_size h
                rw [if_neg (by omega)] at H
                exact H
              have z1 : ((old.length : Int) == 0) = true := beq_iff_eq.2 (by omega)
              have z2 : (old.length == 0) = true := beq_iff_eq.2 (by omega)
              have z3 : ((old.length : Int) != (old.length : Int)) = false := by simp
              clear HW1 HS1 HAr HU HA HN
              go_wp2_with (first
                | (go_at_call 14; (with_reducible refine (r_restore HE.out).mono ?_); rintro e w7 ⟨rfl, hq⟩; have HX := Lib.hid hq; clear hq HE)
                | (go_at_call 15; (with_reducible refine (HSz.out _ HX.out).mono ?_); rintro e w8 ⟨rfl, hq⟩; have HX := Lib.hid hq; clear hq))
              go_ret
              exact ⟨rfl, HB0.out.trans (HX.out.fr.mono HB0.out.size)⟩
        · have HE := hq
          clear hq
          by_cases hjF : j < fresh.length
          · have i1 : decide ((j : Int) < (fresh.length : Int)) = true := decide_eq_true (by omega)
            have i1' : decide (j < fresh.length) = true := decide_eq_true (by omega)
            have HSz : Hid (∀ W, RnOn true w0 W d old → Calls Try.prog 15 #[.pointer (some ⟨d, 0, none⟩), .string ⟨#[97]⟩] W fun e w' => e = .returned (.tuple #[.int .i64 (old.length : Nat), .int .i64 8]) ∧ RnOn true w0 w' d old) := fun W h => by
              have H := r_size h
              rw [if_neg (by omega)] at H
              exact H
            have z1 : ((old.length : Int) == 0) = true := beq_iff_eq.2 (by omega)
            have z2 : (old.length == 0) = true := beq_iff_eq.2 (by omega)
            have z3 : ((old.length : Int) != (old.length : Int)) = false := by simp
            clear HW1 HS1 HAr HU HA HN
            go_wp2_with (first
              | (go_at_call 14; (with_reducible refine (r_restore HE.out).mono ?_); rintro e w7 ⟨rfl, hq⟩; have HX := Lib.hid hq; clear hq HE)
              | (go_at_call 15; (with_reducible refine (HSz.out _ HX.out).mono ?_); rintro e w8 ⟨rfl, hq⟩; have HX := Lib.hid hq; clear hq))
            go_ret
            exact ⟨rfl, HB0.out.trans (HX.out.fr.mono HB0.out.size)⟩
          · have i1 : decide ((j : Int) < (fresh.length : Int)) = false := decide_eq_false (by omega)
            have i1' : decide (j < fresh.length) = false := decide_eq_false (by omega)
            have HSz : Hid (∀ W, RnOn true w0 W d old → Calls Try.prog 15 #[.pointer (some ⟨d, 0, none⟩), .string ⟨#[97]⟩] W fun e w' => e = .returned (.tuple #[.int .i64 (old.length : Nat), .int .i64 8]) ∧ RnOn true w0 w' d old) := fun W h => by
              have H := r_size h
              rw [if_neg (by omega)] at H
              exact H
            have z1 : ((old.length : Int) == 0) = true := beq_iff_eq.2 (by omega)
            have z2 : (old.length == 0) = true := beq_iff_eq.2 (by omega)
            have z3 : ((old.length : Int) != (old.length : Int)) = false := by simp
            clear HW1 HS1 HAr HU HA HN
            go_wp2_with (first
              | (go_at_call 14; (with_reducible refine (r_restore HE.out).mono ?_); rintro e w7 ⟨rfl, hq⟩; have HX := Lib.hid hq; clear hq HE)
              | (go_at_call 15; (with_reducible refine (HSz.out _ HX.out).mono ?_); rintro e w8 ⟨rfl, hq⟩; have HX := Lib.hid hq; clear hq))
            go_ret
            exact ⟨rfl, HB0.out.trans (HX.out.fr.mono HB0.out.size)⟩

theorem renames_walk (w : World) (v1 : Value) (old : List Int) (hv : IntsIn w v1 old) (v2 : Value) (fresh : List Int) (hf : IntsIn w v2 fresh) (n : Int) (u : Value) (ks : List Int) (hu : IntsK w u ks) :
    Calls Try.prog 6 #[v1, v2, .int .i64 n, u] w fun e w' => e = .returned (.bool true) ∧ Below w.heap.size w w' := by
  by_cases h : old.length ≤ 12 ∧ fresh.length ≤ 12 ∧ 0 ≤ n ∧ n ≤ 30 ∧ ks.length ≤ 40
  · obtain ⟨h1, h2, h3, h4, h5⟩ := h
    obtain ⟨n, rfl⟩ := Int.eq_ofNat_of_zero_le h3
    by_cases hN : 0 < old.length
    · exact ren_in1 w v1 v2 u old fresh ks n hv hf hu h1 h2 (by omega) h5 hN
    · exact ren_in0 w v1 v2 u old fresh ks n hv hf hu h1 h2 (by omega) h5 hN
  · exact ren_skip w v1 v2 u old fresh ks n hv hf hu h

end Go.Proofs.Ytlgloikhdbmgdaa.P4
