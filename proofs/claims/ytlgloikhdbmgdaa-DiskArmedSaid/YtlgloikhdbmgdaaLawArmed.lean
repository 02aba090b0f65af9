/-
  P403: the power goes at just the call that it was armed for: the walk of the statement DiskArmed.
-/
import Derived.Test.YtlgloikhdbmgdaaAr0
import Derived.Test.YtlgloikhdbmgdaaArgs4K
namespace Go.Proofs.Ytlgloikhdbmgdaa.P4
open Go Go.RowKit Go.Lib Go.Maps Go.ChangeMaps Go.MapKept Go.Proofs.Ytlgloikhdbmgdaa.P3

set_option maxRecDepth 100000 in
theorem armed_skip (w : World) (n C : Int) (u : Value) (ks : List Int) (hu : IntsK w u ks) (h : ¬ (0 ≤ n ∧ n ≤ 40 ∧ 0 ≤ C ∧ C ≤ 40 ∧ ks.length ≤ 60)) :
    Calls Try.prog 4 #[.int .i64 n, .int .i64 C, u] w fun e w' => e = .returned (.bool true) ∧ Below w.heap.size w w' := by
  have HA := Lib.hid (fun w => alive_any4 w)
  obtain ⟨⟨a, c, rfl, -, -⟩, -⟩ := hu
  by_cases h1 : n < 0
  · have k1 : decide (n < 0) = true := decide_eq_true h1
    clear h h1
    go_enter Try.func4, Try.ntmps4
    go_wp2_with (go_at_call 8; (with_reducible refine (HA.out _).mono ?_); rintro e w1 ⟨rfl, hb⟩)
    go_ret
    exact ⟨rfl, hb⟩
  have k1 : decide (n < 0) = false := decide_eq_false h1
  by_cases h2 : 40 < n
  · have k2 : decide (40 < n) = true := decide_eq_true h2
    clear h h1 h2
    go_enter Try.func4, Try.ntmps4
    go_wp2_with (go_at_call 8; (with_reducible refine (HA.out _).mono ?_); rintro e w1 ⟨rfl, hb⟩)
    go_ret
    exact ⟨rfl, hb⟩
  have k2 : decide (40 < n) = false := decide_eq_false h2
  by_cases h3 : C < 0
  · have k3 : decide (C < 0) = true := decide_eq_true h3
    clear h h1 h2 h3
    go_enter Try.func4, Try.ntmps4
    go_wp2_with (go_at_call 8; (with_reducible refine (HA.out _).mono ?_); rintro e w1 ⟨rfl, hb⟩)
    go_ret
    exact ⟨rfl, hb⟩
  have k3 : decide (C < 0) = false := decide_eq_false h3
  by_cases h4 : 40 < C
  · have k4 : decide (40 < C) = true := decide_eq_true h4
    clear h h1 h2 h3 h4
    go_enter Try.func4, Try.ntmps4
    go_wp2_with (go_at_call 8; (with_reducible refine (HA.out _).mono ?_); rintro e w1 ⟨rfl, hb⟩)
    go_ret
    exact ⟨rfl, hb⟩
  have k4 : decide (40 < C) = false := decide_eq_false h4
  have k5 : decide ((60 : Int) < (ks.length : Int)) = true := decide_eq_true (by omega)
  have k5' : decide (60 < ks.length) = true := decide_eq_true (by omega)
  clear h h1 h2 h3 h4
  go_enter Try.func4, Try.ntmps4
  go_wp2_with (go_at_call 8; (with_reducible refine (HA.out _).mono ?_); rintro e w1 ⟨rfl, hb⟩)
  go_ret
  exact ⟨rfl, hb⟩

/-- the disk behind i of the calls -/
def ArSt (w0 wr : World) (d n : Nat) (q : ByteArray) (ks : List Int) (i don saf : Nat) : Prop :=
  (i ≤ n ∧ don = i ∧ saf = 2 * (i / 3) ∧ QA w0 wr d (i - i / 3) (arA sA.data.toList q i) (n - i) ks) ∨
  (n < i ∧ don = n ∧ saf = 2 * (n / 3) ∧ ∃ t A, t ≤ 100 ∧ 2 * (n / 3) ≤ sizeA A sA.data.toList ∧ QD false w0 wr d t A)

set_option maxRecDepth 100000 in
set_option maxHeartbeats 8000000 in
theorem armed_in (w : World) (n C : Nat) (u : Value) (ks : List Int) (hu : IntsK w u ks) (h1 : n ≤ 40) (h2 : C ≤ 40) (h3 : ks.length ≤ 60) :
    Calls Try.prog 4 #[.int .i64 n, .int .i64 C, u] w fun e w' => e = .returned (.bool true) ∧ Below w.heap.size w w' := by
  have HA := Lib.hid (fun w => alive_any4 w)
  have HN := Lib.hid (fun w => qd_new w)
  obtain ⟨q, hq0⟩ : ∃ q, q = fillB ⟨#[113]⟩ := ⟨_, rfl⟩
  have hqz : q.size = 256 := by rw [hq0]; exact fillB_size _
  have HF : Hid (∀ w, Calls Try.prog 11 #[.string ⟨#[113]⟩, .bool true] w fun e w' => e = .returned (.string q) ∧ Below w.heap.size w w') := fun w => by rw [hq0]; exact fill_own w _ (by decide)
  have HU := Lib.hid (fun w0 (hb : Below w.heap.size w w0) => (hu.below hb).keep (by omega))
  have HQz := Lib.hid hqz
  obtain ⟨⟨a2, c2, rfl, -, -⟩, -⟩ := id hu
  clear hu hq0 hqz
  have k1 : decide ((n : Int) < 0) = false := decide_eq_false (by omega)
  have k2 : decide ((40 : Int) < (n : Int)) = false := decide_eq_false (by omega)
  have k2' : decide (40 < n) = false := decide_eq_false (by omega)
  have k3 : decide ((C : Int) < 0) = false := decide_eq_false (by omega)
  have k4 : decide ((40 : Int) < (C : Int)) = false := decide_eq_false (by omega)
  have k4' : decide (40 < C) = false := decide_eq_false (by omega)
  have k5 : decide ((60 : Int) < (ks.length : Int)) = false := decide_eq_false (by omega)
  have k5' : decide (60 < ks.length) = false := decide_eq_false (by omega)
  go_enter Try.func4, Try.ntmps4
  go_wp2_with (first
    | (go_at_call 8; (with_reducible refine (HA.out _).mono ?_); rintro e w0 ⟨rfl, hb0⟩; have HB0 := Lib.hid hb0; clear hb0)
    | (go_at_call 9; (with_reducible refine (HN.out _).mono ?_); rintro e w1 ⟨rfl, hq⟩; have HQ := Lib.hid hq; clear hq)
    | (go_at_call 19; (with_reducible refine (QD.arm HQ.out n ks (HU.out w0 HB0.out)).mono ?_); rintro e w2 ⟨rfl, hq⟩; have HQ := Lib.hid hq; clear hq))
  obtain ⟨d, hd⟩ : ∃ d, d = w0.heap.size := ⟨_, rfl⟩
  rw [← hd] at HQ ⊢
  clear hd k1 k2 k2' k3 k4 k4' k5 k5' HU HA HN
  go_loopw [8, 9, 10, 11] (fun v8 v9 vi ve wr => ∃ i don saf : Nat, i ≤ C ∧ vi = .int .i64 i ∧ v8 = .int .i64 don ∧ v9 = .int .i64 saf ∧ Hid (ArSt w0 wr d n q ks i don saf)) (fun _ _ vi _ _ => C - (RowKit.intOf vi).toNat)
  case atStart => exact ⟨0, 0, 0, Nat.zero_le _, rfl, rfl, rfl, .inl ⟨Nat.zero_le _, rfl, rfl, HQ⟩⟩
  case round =>
    obtain ⟨i, don, saf, hi, rfl, rfl, rfl, hst⟩ := hrel
    by_cases hiC : i < C
    · have i0 : (0 : Int) ≤ (i : Int) := by omega
      have j1 : decide ((i : Int) < (C : Int)) = true := decide_eq_true (by omega)
      rcases hst.out with ⟨hin, rfl, rfl, hQ⟩ | ⟨hin, hN, rfl, t, A, ht, hA, hQ⟩
      · have HQ3 := Lib.hid hQ
        clear hQ hst
        by_cases hn : don < n
        · have q1 : decide ((don : Int) < (n : Int)) = true := decide_eq_true (by omega)
          have q1' : decide (don < n) = true := decide_eq_true hn
          by_cases hm : don % 3 = 2
          · have q2 : ((don : Int) % 3 == 2) = true := by simp; omega
            go_wp2_with (first
              | (go_at_call 12; (with_reducible refine (a_sync HQ3.out (by omega) hm (by omega) (by omega)).mono ?_); rintro e w6 ⟨rfl, hq⟩; have HQ4 := Lib.hid hq; clear hq)
              | (go_at_call 20; (with_reducible refine (HQ4.out.x.on_).mono ?_); rintro e w7 ⟨rfl, rfl⟩))
            go_roundw
            case rel => exact ⟨don + 1, don + 1, 2 * ((don + 1) / 3), by omega, by go_num, by go_num, congrArg (Value.int .i64) (by omega), .inl ⟨by omega, rfl, rfl, by rw [show n - (don + 1) = n - don - 1 by omega]; exact HQ4⟩⟩
            case measure => simp [RowKit.intOf]; omega
          · have q2 : ((don : Int) % 3 == 2) = false := by simp; omega
            have HW2 : Hid (∀ W, QA w0 W d (don - don / 3) (arA sA.data.toList q don) (n - don) ks → Calls Try.prog 10 #[.pointer (some ⟨d, 0, none⟩), .string ⟨#[97]⟩, .int .i64 ((don : Int) - (don : Int) / 3), .string q] W fun e w' => e = .returned (.int .i64 0) ∧ QA w0 w' d ((don + 1) - (don + 1) / 3) (arA sA.data.toList q (don + 1)) (n - don - 1) ks) := fun W h => by
              rw [show (don : Int) - (don : Int) / 3 = ((don - don / 3 : Nat) : Int) by omega]
              exact a_write HQz.out h (by omega) hm (by omega) (by omega)
            go_wp2_with (first
              | (go_at_call 11; (with_reducible refine (HF.out _).mono ?_); rintro e w5 ⟨rfl, hb⟩; have HQ3 := Lib.hid (HQ3.out.below hb); clear hb)
              | (go_at_call 10; (with_reducible refine (HW2.out _ HQ3.out).mono ?_); rintro e w6 ⟨rfl, hq⟩; have HQ4 := Lib.hid hq; clear hq)
              | (go_at_call 20; (with_reducible refine (HQ4.out.x.on_).mono ?_); rintro e w7 ⟨rfl, rfl⟩))
            go_roundw
            case rel => exact ⟨don + 1, don + 1, 2 * (don / 3), by omega, by go_num, by go_num, rfl, .inl ⟨by omega, rfl, by omega, by rw [show n - (don + 1) = n - don - 1 by omega]; exact HQ4⟩⟩
            case measure => simp [RowKit.intOf]; omega
        · have q1 : decide ((don : Int) < (n : Int)) = false := decide_eq_false (by omega)
          have q1' : decide (don < n) = false := decide_eq_false hn
          rw [show n - don = 0 by omega] at HQ3
          by_cases hm : don % 3 = 2
          · have q2 : ((don : Int) % 3 == 2) = true := by simp; omega
            go_wp2_with (first
              | (go_at_call 12; (with_reducible refine (a_syncF HQ3.out (by omega) hm).mono ?_); rintro e w6 ⟨rfl, t, A, ht, hA, hq⟩; have HQ4 := Lib.hid hq; clear hq)
              | (go_at_call 20; (with_reducible refine (HQ4.out.x.on_).mono ?_); rintro e w7 ⟨rfl, rfl⟩))
            go_roundw
            case rel => exact ⟨don + 1, don, 2 * (don / 3), by omega, by go_num, rfl, rfl, .inr ⟨by omega, by omega, by omega, t, A, ht, by rw [show n = don by omega]; exact hA, HQ4⟩⟩
            case measure => simp [RowKit.intOf]; omega
          · have q2 : ((don : Int) % 3 == 2) = false := by simp; omega
            have HW2 : Hid (∀ W, QA w0 W d (don - don / 3) (arA sA.data.toList q don) 0 ks → Calls Try.prog 10 #[.pointer (some ⟨d, 0, none⟩), .string ⟨#[97]⟩, .int .i64 ((don : Int) - (don : Int) / 3), .string q] W fun e w' => e = .returned (.int .i64 14) ∧ ∃ t A, t ≤ 100 ∧ 2 * (don / 3) ≤ sizeA A sA.data.toList ∧ QD false w0 w' d t A) := fun W h => by
              rw [show (don : Int) - (don : Int) / 3 = ((don - don / 3 : Nat) : Int) by omega]
              exact a_writeF HQz.out h (by omega) hm
            go_wp2_with (first
              | (go_at_call 11; (with_reducible refine (HF.out _).mono ?_); rintro e w5 ⟨rfl, hb⟩; have HQ3 := Lib.hid (HQ3.out.below hb); clear hb)
              | (go_at_call 10; (with_reducible refine (HW2.out _ HQ3.out).mono ?_); rintro e w6 ⟨rfl, t, A, ht, hA, hq⟩; have HQ4 := Lib.hid hq; clear hq)
              | (go_at_call 20; (with_reducible refine (HQ4.out.x.on_).mono ?_); rintro e w7 ⟨rfl, rfl⟩))
            go_roundw
            case rel => exact ⟨don + 1, don, 2 * (don / 3), by omega, by go_num, rfl, rfl, .inr ⟨by omega, by omega, by omega, t, A, ht, by rw [show n = don by omega]; exact hA, HQ4⟩⟩
            case measure => simp [RowKit.intOf]; omega
      · have HQ3 := Lib.hid hQ
        subst hN
        have q1 : decide ((i : Int) < (don : Int)) = false := decide_eq_false (by omega)
        have q1' : decide (i < don) = false := decide_eq_false (by omega)
        clear hQ hst
        by_cases hm : i % 3 = 2
        · have q2 : ((i : Int) % 3 == 2) = true := by simp; omega
          have HS2 : Hid (∀ W, QD false w0 W d t A → Calls Try.prog 12 #[.pointer (some ⟨d, 0, none⟩), .string ⟨#[97]⟩] W fun e w' => e = .returned (.int .i64 14) ∧ QD false w0 w' d t A) := fun W h => h.syncOff sA (by decide)
          go_wp2_with (first
            | (go_at_call 12; (with_reducible refine (HS2.out _ HQ3.out).mono ?_); rintro e w6 ⟨rfl, hq⟩; have HQ4 := Lib.hid hq; clear hq)
            | (go_at_call 20; (with_reducible refine (HQ4.out.on_).mono ?_); rintro e w7 ⟨rfl, rfl⟩))
          go_roundw
          case rel => exact ⟨i + 1, don, 2 * (don / 3), by omega, by go_num, rfl, rfl, .inr ⟨by omega, rfl, rfl, t, A, ht, hA, HQ4⟩⟩
          case measure => simp [RowKit.intOf]; omega
        · have q2 : ((i : Int) % 3 == 2) = false := by simp; omega
          have HW2 : Hid (∀ W x, QD false w0 W d t A → Calls Try.prog 10 #[.pointer (some ⟨d, 0, none⟩), .string ⟨#[97]⟩, .int .i64 x, .string q] W fun e w' => e = .returned (.int .i64 14) ∧ QD false w0 w' d t A) := fun W x h => h.writeOff sA x q (by decide) (by omega)
          go_wp2_with (first
            | (go_at_call 11; (with_reducible refine (HF.out _).mono ?_); rintro e w5 ⟨rfl, hb⟩; have HQ3 := Lib.hid (HQ3.out.below hb); clear hb)
            | (go_at_call 10; (with_reducible refine (HW2.out _ _ HQ3.out).mono ?_); rintro e w6 ⟨rfl, hq⟩; have HQ4 := Lib.hid hq; clear hq)
            | (go_at_call 20; (with_reducible refine (HQ4.out.on_).mono ?_); rintro e w7 ⟨rfl, rfl⟩))
          go_roundw
          case rel => exact ⟨i + 1, don, 2 * (don / 3), by omega, by go_num, rfl, rfl, .inr ⟨by omega, rfl, rfl, t, A, ht, hA, HQ4⟩⟩
          case measure => simp [RowKit.intOf]; omega
    · have j1 : decide ((i : Int) < (C : Int)) = false := decide_eq_false (by omega)
      have j1' : decide (i < C) = false := decide_eq_false (by omega)
      have HQ5 : Hid (∃ on A, QX on w0 wr d A ∧ saf ≤ sizeA A sA.data.toList) := by
        rcases hst.out with ⟨hin, rfl, rfl, hQ⟩ | ⟨hin, rfl, rfl, t, A, ht, hA, hQ⟩
        · exact ⟨_, _, hQ.x, by rw [ar_size _ _ (by omega)]; omega⟩
        · exact ⟨_, _, hQ.x, hA⟩
      clear hst
      obtain ⟨S, hS2⟩ : ∃ S, S = saf := ⟨_, rfl⟩
      rw [← hS2] at HQ5 ⊢
      clear hS2
      obtain ⟨on, A, hX, hS⟩ := HQ5.out
      have HX := Lib.hid hX
      have HS1 : Hid (∀ W, QX true w0 W d A → Calls Try.prog 15 #[.pointer (some ⟨d, 0, none⟩), .string ⟨#[97]⟩] W fun e w' => e = .returned (.tuple #[.int .i64 (sizeA A sA.data.toList : Nat), .int .i64 (if getA A sA.data.toList = none then 8 else 0)]) ∧ QX true w0 w' d A) := fun W h => h.size sA (by decide) (by decide)
      have hE : Hid ((if getA A sA.data.toList = none then 8 else 0 : Int) = 0 ∨ (if getA A sA.data.toList = none then 8 else 0 : Int) = 8 ∧ S = 0) := by
        by_cases hg : getA A sA.data.toList = none
        · refine .inr ⟨if_pos hg, ?_⟩
          unfold sizeA at hS
          rw [hg] at hS
          exact Nat.le_zero.1 hS
        · exact .inl (if_neg hg)
      have q5 : decide ((S : Int) ≤ (sizeA A sA.data.toList : Int)) = true := decide_eq_true (by omega)
      have q5' : decide (S ≤ sizeA A sA.data.toList) = true := decide_eq_true hS
      generalize (if getA A sA.data.toList = none then 8 else 0 : Int) = E at HS1 hE
      generalize sizeA A sA.data.toList = Z at HS1 q5 q5'
      clear hX hS HQ5 HF HQz
      rcases hE.out with rfl | ⟨rfl, hS0⟩
      · go_wp2_with (first
          | (go_at_call 14; (with_reducible refine (HX.out.restore).mono ?_); rintro e w5 ⟨rfl, hq⟩; have HX := Lib.hid hq; clear hq)
          | (go_at_call 15; (with_reducible refine (HS1.out _ HX.out).mono ?_); rintro e w6 ⟨rfl, hq⟩; have HX := Lib.hid hq; clear hq)
          | (go_at_call 20; (with_reducible refine (HX.out.on_).mono ?_); rintro e w7 ⟨rfl, rfl⟩))
        go_ret
        exact ⟨rfl, HB0.out.trans (HX.out.fr.mono HB0.out.size)⟩
      · have q6 : ((S : Int) == 0) = true := by simp; omega
        go_wp2_with (first
          | (go_at_call 14; (with_reducible refine (HX.out.restore).mono ?_); rintro e w5 ⟨rfl, hq⟩; have HX := Lib.hid hq; clear hq)
          | (go_at_call 15; (with_reducible refine (HS1.out _ HX.out).mono ?_); rintro e w6 ⟨rfl, hq⟩; have HX := Lib.hid hq; clear hq)
          | (go_at_call 20; (with_reducible refine (HX.out.on_).mono ?_); rintro e w7 ⟨rfl, rfl⟩))
        go_ret
        exact ⟨rfl, HB0.out.trans (HX.out.fr.mono HB0.out.size)⟩

theorem armed_walk (w : World) (n C : Int) (u : Value) (ks : List Int) (hu : IntsK w u ks) :
    Calls Try.prog 4 #[.int .i64 n, .int .i64 C, u] w fun e w' => e = .returned (.bool true) ∧ Below w.heap.size w w' := by
  by_cases h : 0 ≤ n ∧ n ≤ 40 ∧ 0 ≤ C ∧ C ≤ 40 ∧ ks.length ≤ 60
  · obtain ⟨h1, h2, h3, h4, h5⟩ := h
    obtain ⟨n, rfl⟩ := Int.eq_ofNat_of_zero_le h1
    obtain ⟨C, rfl⟩ := Int.eq_ofNat_of_zero_le h3
    exact armed_in w n C u ks hu (by omega) (by omega) h5
  · exact armed_skip w n C u ks hu h

end Go.Proofs.Ytlgloikhdbmgdaa.P4
