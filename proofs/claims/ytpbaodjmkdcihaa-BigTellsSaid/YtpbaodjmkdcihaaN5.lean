/-
  Where a value stands, as a text: package big's Ref and Unref.
-/
import Derived.Test.YtpbaodjmkdcihaaN3
import Derived.Test.YtpbaodjmkdcihaaPkHalf
import Derived.Test.YtpbaodjmkdcihaaPkEnd
import Derived.Test.YtpbaodjmkdcihaaGkFrom
import Derived.Test.YtpbaodjmkdcihaaGkHalf
import Derived.Test.YtpbaodjmkdcihaaGkEnd
namespace Go.Proofs.Ytpbaodjmkdcihaa.P11
open Go Go.RowKit Go.Lib Go.Proofs.Ytpbaodjmkdcihaa.PK
open Go.Proofs.Ytpbaodjmkdcihaa.P0 (low str str_size low_length size_app text_ext text_app str_list str_eq text_len same_true same_false)
open Go.Proofs.Ytpbaodjmkdcihaa.PP (PutIs PutOwn PutNew stepN stepN_fits putHalf_any putEnd_ok Fr GetAt getNum getFin num num_lt getFrom_any getHalf_any getEnd_any)

/-- the Put in block B holds the bytes xs -/
structure LS (w0 : World) (B : Nat) (xs : List UInt8) (w : World) : Prop where
  put : PutIs w B xs 0
  lo : w0.heap.size ≤ B
  below : Below w0.heap.size w0 w
theorem ls_start (w : World) (n : Nat) (hn : n < 65536) :
    Calls Try.prog 21 #[.pointer (some ⟨w.heap.size, 0, none⟩), .int .i64 n] (w.alloc (.cells #[.slice none 0 0, .pointer none, .int .i64 0] 47)) fun r w' => r = .returned (.pointer (some ⟨w.heap.size, 0, none⟩)) ∧ LS w w.heap.size (low 2 n) w' := by
  refine (putHalf_any _ w.heap.size [] n 0 (by omega) (by simp) (.inr ⟨new_at w _ _, rfl⟩)).mono fun r w' ⟨h1, h2, h3⟩ => ⟨h1, ?_, Nat.le_refl _, ?_⟩
  · rw [stepN_fits (by omega) (by omega)] at h2
    exact h2
  · exact (below_new w _).trans h3.below
theorem ls_half {w0 W : World} {B : Nat} {xs : List UInt8} (n : Nat) (hn : n < 65536) (hx : xs.length ≤ 100000) (h : LS w0 B xs W) :
    Calls Try.prog 21 #[.pointer (some ⟨B, 0, none⟩), .int .i64 n] W fun r w' => r = .returned (.pointer (some ⟨B, 0, none⟩)) ∧ LS w0 B (xs ++ low 2 n) w' := by
  refine (putHalf_any W B xs n 0 (by omega) (by omega) h.put).mono fun r w' ⟨h1, h2, h3⟩ => ⟨h1, ?_⟩
  rw [stepN_fits (by omega) (by omega)] at h2
  exact ⟨h2, h.lo, h.below.trans (h3.below.mono h.lo)⟩
theorem ls_end {w0 W : World} {B : Nat} {s : ByteArray} {xs : List UInt8} (hs : xs = s.data.toList) (h : LS w0 B xs W) :
    Calls Try.prog 22 #[.pointer (some ⟨B, 0, none⟩)] W fun r w' => r = .returned (.tuple #[.string s, .int .i64 0]) ∧ Below w0.heap.size w0 w' := by
  subst hs
  have H := putEnd_ok W B _ h.put
  rw [show (⟨s.data.toList.toArray⟩ : ByteArray) = s from P0.str_eq s] at H
  exact H.mono fun _ _ ⟨a, d⟩ => ⟨a, d ▸ h.below⟩

/-- what a text's two halves are, and whether it is just those -/
theorem unref_parts (s : ByteArray) : (s.size = 4 → (getNum 2 s 0).1 = numA s ∧ (getNum 2 (getNum 2 s 0).2.1 (getNum 2 s 0).2.2).1 = numZ s ∧ getFin (getNum 2 (getNum 2 s 0).2.1 (getNum 2 s 0).2.2).2.1 (getNum 2 (getNum 2 s 0).2.1 (getNum 2 s 0).2.2).2.2 = 0) ∧
    (s.size ≠ 4 → getFin (getNum 2 (getNum 2 s 0).2.1 (getNum 2 s 0).2.2).2.1 (getNum 2 (getNum 2 s 0).2.1 (getNum 2 s 0).2.2).2.2 ≠ 0) := by
  have e0 : (⟨#[]⟩ : ByteArray).size = 0 := rfl
  by_cases h2 : 2 ≤ s.size
  · have hz : (s.extract 2 s.size).size = s.size - 2 := by rw [ByteArray.size_extract]; omega
    have q1 : getNum 2 s 0 = (wrap64 (num (s.data.toList.take 2)), s.extract 2 s.size, 0) := by unfold PP.getNum; rw [if_pos rfl, if_pos h2]
    rw [q1]
    simp only
    by_cases h4 : 4 ≤ s.size
    · have q2 : getNum 2 (s.extract 2 s.size) 0 = (wrap64 (num ((s.extract 2 s.size).data.toList.take 2)), (s.extract 2 s.size).extract 2 (s.extract 2 s.size).size, 0) := by unfold PP.getNum; rw [if_pos rfl, if_pos (by omega)]
      have hz2 : ((s.extract 2 s.size).extract 2 (s.extract 2 s.size).size).size = s.size - 4 := by rw [ByteArray.size_extract, hz]; omega
      rw [q2]
      simp only
      unfold PP.getFin
      rw [hz2]
      constructor
      · intro h
        have ha := numA_lt s
        have hb := numZ_lt h
        refine ⟨?_, ?_, ?_⟩
        · have : num (s.data.toList.take 2) = numA s := congrArg num (show s.data.toList.take 2 = (s.extract 0 2).data.toList by simp)
          rw [this, PP.wrap_small _ (by omega)]
        · have : num ((s.extract 2 s.size).data.toList.take 2) = numZ s := congrArg num (List.take_of_length_le (by rw [text_len, hz]; omega))
          rw [this, PP.wrap_small _ (by omega)]
        · rw [if_neg (by omega)]
      · intro h
        rw [if_pos (by omega)]
        simp
    · have q2 : getNum 2 (s.extract 2 s.size) 0 = (0, ⟨#[]⟩, 5) := by unfold PP.getNum; rw [if_pos rfl, if_neg (by omega)]
      rw [q2]
      simp only
      unfold PP.getFin
      rw [e0]
      exact ⟨fun h => absurd h (by omega), fun _ => by simp⟩
  · have q1 : getNum 2 s 0 = (0, ⟨#[]⟩, 5) := by unfold PP.getNum; rw [if_pos rfl, if_neg h2]
    have q2 : getNum 2 ⟨#[]⟩ 5 = (0, ⟨#[]⟩, 5) := by unfold PP.getNum; rw [if_neg (by omega)]
    rw [q1]
    simp only
    rw [q2]
    simp only
    unfold PP.getFin
    rw [e0]
    exact ⟨fun h => absurd h (by omega), fun _ => by simp⟩

set_option maxRecDepth 100000 in
set_option maxHeartbeats 1000000 in
theorem okay_any (w : World) (first n : Int) : Calls Try.prog 20 #[.int .i64 first, .int .i64 n] w fun e w' => e = .returned (.bool (decide (refOk first n))) ∧ Below w.heap.size w w' := by
  by_cases h0 : 2 ≤ first
  · have k0 : decide (2 ≤ first) = true := decide_eq_true h0
    by_cases h1 : first < 4000
    · have k1 : decide (first < 4000) = true := decide_eq_true h1
      by_cases h2 : 0 ≤ n
      · have k2 : decide (0 ≤ n) = true := decide_eq_true h2
        by_cases h3 : n ≤ 2000
        · have k3 : decide (n ≤ 2000) = true := decide_eq_true h3
          rw [decide_eq_true (show refOk first n from ⟨h0, h1, h2, h3⟩)]
          clear h0 h1 h2 h3
          go_enter Try.func20, Try.ntmps20
          go_wp2
          go_ret
          exact ⟨rfl, Below.refl _ _⟩
        · have k3 : decide (n ≤ 2000) = false := decide_eq_false h3
          rw [decide_eq_false (fun q : refOk first n => h3 q.2.2.2)]
          clear h0 h1 h2 h3
          go_enter Try.func20, Try.ntmps20
          go_wp2
          go_ret
          exact ⟨rfl, Below.refl _ _⟩
      · have k2 : decide (0 ≤ n) = false := decide_eq_false h2
        rw [decide_eq_false (fun q : refOk first n => h2 q.2.2.1)]
        clear h0 h1 h2
        go_enter Try.func20, Try.ntmps20
        go_wp2
        go_ret
        exact ⟨rfl, Below.refl _ _⟩
    · have k1 : decide (first < 4000) = false := decide_eq_false h1
      rw [decide_eq_false (fun q : refOk first n => h1 q.2.1)]
      clear h0 h1
      go_enter Try.func20, Try.ntmps20
      go_wp2
      go_ret
      exact ⟨rfl, Below.refl _ _⟩
  · have k0 : decide (2 ≤ first) = false := decide_eq_false h0
    rw [decide_eq_false (fun q : refOk first n => h0 q.1)]
    clear h0
    go_enter Try.func20, Try.ntmps20
    go_wp2
    go_ret
    exact ⟨rfl, Below.refl _ _⟩

set_option maxRecDepth 100000 in
set_option maxHeartbeats 1000000 in
theorem ref_any (w : World) (first n : Int) : Calls Try.prog 8 #[.int .i64 first, .int .i64 n] w fun e w' => e = .returned (.tuple #[.string (refB first n).1, .int .i64 (refB first n).2]) ∧ Below w.heap.size w w' := by
  have HV := Lib.hid (fun W => okay_any W first n)
  by_cases h : refOk first n
  · rw [decide_eq_true h] at HV
    have e : refB first n = (refT first.toNat n.toNat, 0) := by unfold refB; rw [if_pos h]
    rw [e]
    obtain ⟨h1, h2, h3, h4⟩ := h
    obtain ⟨a, rfl⟩ := Int.eq_ofNat_of_zero_le (show 0 ≤ first by omega)
    obtain ⟨m, rfl⟩ := Int.eq_ofNat_of_zero_le (show 0 ≤ n by omega)
    clear e
    have ha : a < 4000 := by omega
    have hm : m ≤ 2000 := by omega
    have HS : Hid (∀ W, Below w.heap.size w W → Calls Try.prog 21 #[.pointer (some ⟨W.heap.size, 0, none⟩), .int .i64 a] (W.alloc (.cells #[.slice none 0 0, .pointer none, .int .i64 0] 47)) fun r w' => r = .returned (.pointer (some ⟨W.heap.size, 0, none⟩)) ∧ LS W W.heap.size (low 2 a) w') := fun W _ => ls_start W a (by omega)
    have HM : Hid (∀ W W0, LS W0 W0.heap.size (low 2 a) W → Calls Try.prog 21 #[.pointer (some ⟨W0.heap.size, 0, none⟩), .int .i64 m] W fun r w' => r = .returned (.pointer (some ⟨W0.heap.size, 0, none⟩)) ∧ LS W0 W0.heap.size (low 2 a ++ low 2 m) w') := fun W W0 h => ls_half m (by omega) (by rw [low_length]; omega) h
    have HE : Hid (∀ W W0, LS W0 W0.heap.size (low 2 a ++ low 2 m) W → Calls Try.prog 22 #[.pointer (some ⟨W0.heap.size, 0, none⟩)] W fun r w' => r = .returned (.tuple #[.string (refT a m), .int .i64 0]) ∧ Below W0.heap.size W0 w') := fun W W0 h => ls_end (by unfold refT; rw [text_app, str_list, str_list]) h
    rw [Int.toNat_natCast, Int.toNat_natCast]
    generalize refT a m = R at *
    clear h1 h2 h3 h4
    go_enter Try.func8, Try.ntmps8
    go_wp2_with (first
      | (go_at_call 20; (with_reducible refine (HV.out _).mono ?_); rintro e w0 ⟨rfl, hb⟩; have B0 := Lib.hid hb; clear hb)
      | (go_at_call 21; (with_reducible refine (HS.out _ B0.out).mono ?_); rintro e w1 ⟨rfl, hb⟩; have S1 := Lib.hid hb; clear hb HS)
      | (go_at_call 21; (with_reducible refine (HM.out _ _ S1.out).mono ?_); rintro e w2 ⟨rfl, hb⟩; have S2 := Lib.hid hb; clear hb)
      | (go_at_call 22; (with_reducible refine (HE.out _ _ S2.out).mono ?_); rintro e w3 ⟨rfl, hb⟩; have B3 := Lib.hid hb; clear hb))
    go_ret2
    exact ⟨rfl, thenBelow B0.out B3.out⟩
  · rw [decide_eq_false h] at HV
    have e : refB first n = (⟨#[]⟩, 1) := by unfold refB; rw [if_neg h]
    rw [e]
    clear e h
    go_enter Try.func8, Try.ntmps8
    go_wp2_with (first
      | (go_at_call 20; (with_reducible refine (HV.out _).mono ?_); rintro e w0 ⟨rfl, hb⟩; have B0 := Lib.hid hb; clear hb))
    go_ret2
    exact ⟨rfl, B0.out⟩

set_option maxRecDepth 100000 in
set_option maxHeartbeats 1000000 in
theorem unref_any (w : World) (s : ByteArray) : Calls Try.prog 10 #[.string s] w fun e w' => e = .returned (.tuple #[.int .i64 (unrefB s).1, .int .i64 (unrefB s).2.1, .int .i64 (unrefB s).2.2]) ∧ Below w.heap.size w w' := by
  obtain ⟨U4, U0⟩ := unref_parts s
  obtain ⟨⟨a, s1, e1⟩, hq1⟩ : ∃ q, q = getNum 2 s 0 := ⟨_, rfl⟩
  obtain ⟨⟨n, s2, e2⟩, hq2⟩ : ∃ q, q = getNum 2 s1 e1 := ⟨_, rfl⟩
  obtain ⟨f, hf⟩ : ∃ f, f = getFin s2 e2 := ⟨_, rfl⟩
  simp only [← hq1] at U4 U0
  simp only [← hq2] at U4 U0
  simp only [← hf] at U4 U0
  have HF := Lib.hid (getFrom_any w s)
  have H1 : Hid (∀ W, GetAt W w.heap.size s 0 → Calls Try.prog 25 #[.pointer (some ⟨w.heap.size, 0, none⟩)] W fun r w' => r = .returned (.int .i64 a) ∧ GetAt w' w.heap.size s1 e1 ∧ Fr w.heap.size W w') := fun W h => by
    have := getHalf_any W w.heap.size s 0 h
    rwa [← hq1] at this
  have H2 : Hid (∀ W, GetAt W w.heap.size s1 e1 → Calls Try.prog 25 #[.pointer (some ⟨w.heap.size, 0, none⟩)] W fun r w' => r = .returned (.int .i64 n) ∧ GetAt w' w.heap.size s2 e2 ∧ Fr w.heap.size W w') := fun W h => by
    have := getHalf_any W w.heap.size s1 e1 h
    rwa [← hq2] at this
  have H3 : Hid (∀ W, GetAt W w.heap.size s2 e2 → Calls Try.prog 26 #[.pointer (some ⟨w.heap.size, 0, none⟩)] W fun r w' => r = .returned (.int .i64 f) ∧ Fr w.heap.size W w') := fun W h => by
    have := getEnd_any W w.heap.size s2 e2 h
    rwa [← hf] at this
  clear hq1 hq2 hf
  by_cases hs : s.size = 4
  · obtain ⟨rfl, rfl, rfl⟩ := U4 hs
    have HR := Lib.hid (fun W => okay_any W (numA s) (numZ s))
    have hU : unrefB s = if refOk (numA s) (numZ s) then ((numA s : Int), (numZ s : Int), 0) else (0, 0, 6) := by
      unfold unrefB
      by_cases h : refOk (numA s) (numZ s)
      · rw [if_pos ⟨hs, h⟩, if_pos h]
      · rw [if_neg (fun q => h q.2), if_neg h]
    rw [hU]
    clear hU U4 U0 hs
    generalize numA s = A at *
    generalize numZ s = Z at *
    by_cases h : refOk A Z
    · rw [decide_eq_true h] at HR
      rw [if_pos h]
      clear h
      go_enter Try.func10, Try.ntmps10
      go_wp2_with (first
        | (go_at_call 24; (with_reducible refine (HF.out).mono ?_); rintro e w1 ⟨rfl, hg, hb, -⟩; have G1 := Lib.hid hg; have B1 := Lib.hid hb; clear hg hb)
        | (go_at_call 25; (with_reducible refine (H1.out _ G1.out).mono ?_); rintro e w2 ⟨rfl, hg, hb⟩; have G2 := Lib.hid hg; have B2 := Lib.hid (B1.out.trans hb.below); clear hg hb H1)
        | (go_at_call 25; (with_reducible refine (H2.out _ G2.out).mono ?_); rintro e w3 ⟨rfl, hg, hb⟩; have G3 := Lib.hid hg; have B3 := Lib.hid (B2.out.trans hb.below); clear hg hb)
        | (go_at_call 26; (with_reducible refine (H3.out _ G3.out).mono ?_); rintro e w4 ⟨rfl, hb⟩; have B4 := Lib.hid (B3.out.trans hb.below); clear hb)
        | (go_at_call 20; (with_reducible refine (HR.out _).mono ?_); rintro e w5 ⟨rfl, hb⟩; have B5 := Lib.hid (thenBelow B4.out hb); clear hb))
      go_ret3
      exact ⟨rfl, B5.out⟩
    · rw [decide_eq_false h] at HR
      rw [if_neg h]
      clear h
      go_enter Try.func10, Try.ntmps10
      go_wp2_with (first
        | (go_at_call 24; (with_reducible refine (HF.out).mono ?_); rintro e w1 ⟨rfl, hg, hb, -⟩; have G1 := Lib.hid hg; have B1 := Lib.hid hb; clear hg hb)
        | (go_at_call 25; (with_reducible refine (H1.out _ G1.out).mono ?_); rintro e w2 ⟨rfl, hg, hb⟩; have G2 := Lib.hid hg; have B2 := Lib.hid (B1.out.trans hb.below); clear hg hb H1)
        | (go_at_call 25; (with_reducible refine (H2.out _ G2.out).mono ?_); rintro e w3 ⟨rfl, hg, hb⟩; have G3 := Lib.hid hg; have B3 := Lib.hid (B2.out.trans hb.below); clear hg hb)
        | (go_at_call 26; (with_reducible refine (H3.out _ G3.out).mono ?_); rintro e w4 ⟨rfl, hb⟩; have B4 := Lib.hid (B3.out.trans hb.below); clear hb)
        | (go_at_call 20; (with_reducible refine (HR.out _).mono ?_); rintro e w5 ⟨rfl, hb⟩; have B5 := Lib.hid (thenBelow B4.out hb); clear hb))
      go_ret3
      exact ⟨rfl, B5.out⟩
  · have hU : unrefB s = (0, 0, 6) := by unfold unrefB; rw [if_neg (fun h => hs h.1)]
    rw [hU]
    have m1 : (f != 0) = true := by simpa using U0 hs
    clear hU U4 U0 hs
    go_enter Try.func10, Try.ntmps10
    go_wp2_with (first
      | (go_at_call 24; (with_reducible refine (HF.out).mono ?_); rintro e w1 ⟨rfl, hg, hb, -⟩; have G1 := Lib.hid hg; have B1 := Lib.hid hb; clear hg hb)
      | (go_at_call 25; (with_reducible refine (H1.out _ G1.out).mono ?_); rintro e w2 ⟨rfl, hg, hb⟩; have G2 := Lib.hid hg; have B2 := Lib.hid (B1.out.trans hb.below); clear hg hb H1)
      | (go_at_call 25; (with_reducible refine (H2.out _ G2.out).mono ?_); rintro e w3 ⟨rfl, hg, hb⟩; have G3 := Lib.hid hg; have B3 := Lib.hid (B2.out.trans hb.below); clear hg hb)
      | (go_at_call 26; (with_reducible refine (H3.out _ G3.out).mono ?_); rintro e w4 ⟨rfl, hb⟩; have B4 := Lib.hid (B3.out.trans hb.below); clear hb))
    go_ret3
    exact ⟨rfl, B4.out⟩

end Go.Proofs.Ytpbaodjmkdcihaa.P11
