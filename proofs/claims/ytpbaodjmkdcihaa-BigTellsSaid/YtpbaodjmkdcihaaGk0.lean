/-
  Package pack: a Get in memory, its bytes, its numbers. (By gen_pack.py.)
-/
import Derived.Test.YtpbaodjmkdcihaaPk0
namespace Go.Proofs.Ytpbaodjmkdcihaa.PP
open Go Go.RowKit Go.Lib Go.Proofs.Ytpbaodjmkdcihaa.P0

/-- block b is a Get: what is left, its error -/
def GetAt (w : World) (b : Nat) (s : ByteArray) (bad : Int) : Prop := w.heap[b]? = some (.cells #[.string s, .int .i64 bad] 70 (0, 0))
theorem GetAt.c0 {w : World} {b : Nat} {s : ByteArray} {bad : Int} (h : GetAt w b s bad) : w.cell? ⟨b, 0, none⟩ = some (.string s) := by unfold GetAt at h; rw [cell_at h]; rfl
theorem GetAt.c1 {w : World} {b : Nat} {s : ByteArray} {bad : Int} (h : GetAt w b s bad) : w.cell? ⟨b, 1, none⟩ = some (.int .i64 bad) := by unfold GetAt at h; rw [cell_at h]; rfl
theorem GetAt.f {w : World} {b : Nat} {s : ByteArray} {bad : Int} (h : GetAt w b s bad) (j : Nat) : w.frozen? ⟨b, j, none⟩ = false := free_at h j
theorem GetAt.set0 {w : World} {b : Nat} {s : ByteArray} {bad : Int} (h : GetAt w b s bad) (t : ByteArray) : GetAt (w.setCell ⟨b, 0, none⟩ (.string t)) b t bad := by unfold GetAt at *; rw [set_at h]; rfl
theorem GetAt.set1 {w : World} {b : Nat} {s : ByteArray} {bad : Int} (h : GetAt w b s bad) (e : Int) : GetAt (w.setCell ⟨b, 1, none⟩ (.int .i64 e)) b s e := by unfold GetAt at *; rw [set_at h]; rfl
theorem GetAt.below {w w' : World} {b : Nat} {s : ByteArray} {bad : Int} (h : GetAt w b s bad) (hb : Below w.heap.size w w') : GetAt w' b s bad := by
  unfold GetAt at *; rw [hb.block b (lt_of_block h)]; exact h

theorem getBad_any (w : World) (b : Nat) (s : ByteArray) (bad : Int) (h : GetAt w b s bad) :
    Calls Try.prog 37 #[.pointer (some ⟨b, 0, none⟩)] w fun r w' => r = .returned (.int .i64 bad) ∧ w = w' := by
  have c1 := h.c1
  clear h
  go_enter Try.func37, Try.ntmps37
  go_wp2
  go_ret
  exact ⟨rfl, rfl⟩
theorem getBad_nil (w : World) :
    Calls Try.prog 37 #[.pointer none] w fun r w' => r = .returned (.int .i64 1) ∧ w = w' := by
  go_enter Try.func37, Try.ntmps37
  go_wp2
  go_ret
  exact ⟨rfl, rfl⟩
theorem getFail_any (w : World) (b : Nat) (s : ByteArray) (bad e : Int) (h : GetAt w b s bad) :
    Calls Try.prog 36 #[.pointer (some ⟨b, 0, none⟩), .int .i64 e] w fun r w' => r = .returned (.tuple #[]) ∧ GetAt w' b ⟨#[]⟩ e ∧ Fr b w w' := by
  have c0 := h.c0
  have f0 := h.f 0
  have g1 := h.set0 ⟨#[]⟩
  have c1 := g1.c1
  have f1 := g1.f 1
  have g2 := g1.set1 e
  have hB : Fr b w ((w.setCell ⟨b, 0, none⟩ (.string ⟨#[]⟩)).setCell ⟨b, 1, none⟩ (.int .i64 e)) := ((Fr.refl b w).setCell _ _).setCell _ _
  clear h g1
  go_enter Try.func36, Try.ntmps36
  go_wp2
  go_end0
  exact ⟨rfl, g2, hB⟩

theorem getRaw_bad (w : World) (b : Nat) (s : ByteArray) (bad n : Int) (hbad : bad ≠ 0) (h : GetAt w b s bad) :
    Calls Try.prog 43 #[.pointer (some ⟨b, 0, none⟩), .int .i64 n] w fun r w' => r = .returned (.string ⟨#[]⟩) ∧ w = w' := by
  have k : (bad != 0) = true := by simpa using hbad
  go_enter Try.func43, Try.ntmps43
  go_wp2_with (go_at_call 37; refine (getBad_any _ b s bad h).mono ?_; rintro e w' ⟨rfl, rfl⟩)
  go_ret
  exact ⟨rfl, rfl⟩
theorem getRaw_nil (w : World) (n : Int) :
    Calls Try.prog 43 #[.pointer none, .int .i64 n] w fun r w' => r = .returned (.string ⟨#[]⟩) ∧ w = w' := by
  go_enter Try.func43, Try.ntmps43
  go_wp2_with (go_at_call 37; refine (getBad_nil _).mono ?_; rintro e w' ⟨rfl, rfl⟩)
  go_ret
  exact ⟨rfl, rfl⟩
theorem getRaw_neg (w : World) (b : Nat) (s : ByteArray) (n : Int) (hn : n < 0) (h : GetAt w b s 0) :
    Calls Try.prog 43 #[.pointer (some ⟨b, 0, none⟩), .int .i64 n] w fun r w' => r = .returned (.string ⟨#[]⟩) ∧ GetAt w' b ⟨#[]⟩ 1 ∧ Fr b w w' := by
  have k : decide (n < 0) = true := by simpa using hn
  go_enter Try.func43, Try.ntmps43
  go_wp2_with (first | (go_at_call 37; refine (getBad_any _ b s 0 h).mono ?_; rintro e w' ⟨rfl, rfl⟩) | (go_at_call 36; refine (getFail_any _ b s 0 1 h).mono ?_; rintro e w' ⟨rfl, h1, h2⟩))
  go_ret
  exact ⟨rfl, h1, h2⟩
theorem getRaw_over (w : World) (b : Nat) (s : ByteArray) (n : Nat) (hn : s.size < n) (h : GetAt w b s 0) :
    Calls Try.prog 43 #[.pointer (some ⟨b, 0, none⟩), .int .i64 n] w fun r w' => r = .returned (.string ⟨#[]⟩) ∧ GetAt w' b ⟨#[]⟩ 5 ∧ Fr b w w' := by
  have k : decide ((n : Int) < 0) = false := by simp
  have k2 : decide (s.size < n) = true := by simpa using hn
  have k3 : decide ((s.size : Int) < (n : Int)) = true := by simpa using hn
  have c0 := h.c0
  go_enter Try.func43, Try.ntmps43
  go_wp2_with (first | (go_at_call 37; refine (getBad_any _ b s 0 h).mono ?_; rintro e w' ⟨rfl, rfl⟩) | (go_at_call 36; refine (getFail_any _ b s 0 5 h).mono ?_; rintro e w' ⟨rfl, h1, h2⟩))
  go_ret
  exact ⟨rfl, h1, h2⟩
theorem getRaw_ok (w : World) (b : Nat) (s : ByteArray) (n : Nat) (hn : n ≤ s.size) (h : GetAt w b s 0) :
    Calls Try.prog 43 #[.pointer (some ⟨b, 0, none⟩), .int .i64 n] w fun r w' => r = .returned (.string (s.extract 0 n)) ∧ GetAt w' b (s.extract n s.size) 0 ∧ Fr b w w' := by
  have k : decide ((n : Int) < 0) = false := by simp
  have k2 : decide (s.size < n) = false := by simpa using hn
  have k3 : decide ((s.size : Int) < (n : Int)) = false := by simpa using hn
  have c0 := h.c0
  have f0 := h.f 0
  have g1 := h.set0 (s.extract n s.size)
  have hB : Fr b w (w.setCell ⟨b, 0, none⟩ (.string (s.extract n s.size))) := ((Fr.refl b w).setCell _ _)
  go_enter Try.func43, Try.ntmps43
  go_wp2_with (first | (go_at_call 37; refine (getBad_any _ b s 0 h).mono ?_; rintro e w' ⟨rfl, rfl⟩))
  go_ret
  exact ⟨rfl, g1, hB⟩

/-- the number of bytes, the lowest first -/
def num : List UInt8 → Nat
  | [] => 0
  | c :: r => c.toNat + 256 * num r
theorem num_lt : ∀ xs : List UInt8, num xs < 256 ^ xs.length
  | [] => by simp [num]
  | c :: r => by
    have := num_lt r
    have h1 := c.toNat_lt
    simp only [num, List.length_cons, Nat.pow_succ]
    omega
theorem num_snoc (xs : List UInt8) (c : UInt8) : num (xs ++ [c]) = num xs + c.toNat * 256 ^ xs.length := by
  induction xs with
  | nil => simp [num]
  | cons a r ih => simp only [List.cons_append, num, ih, List.length_cons, Nat.pow_succ, Nat.mul_add, ← Nat.add_assoc]; rw [show 256 * (c.toNat * 256 ^ r.length) = c.toNat * (256 ^ r.length * 256) by rw [Nat.mul_left_comm, Nat.mul_comm 256]]
theorem take_snoc (s : ByteArray) (k : Nat) (h : k < s.size) : s.data.toList.take (k + 1) = s.data.toList.take k ++ [s[k]] := by
  rw [List.take_succ_eq_append_getElem (by simpa using h)]; rfl

theorem or_step (A c k : Nat) (hA : A < 256 ^ k) (hc : c < 256) (hk : k < 8) :
    bits .or .u64 (A : Int) (IntKind.u64.wrap (IntKind.u64.wrap (c : Int) * 2 ^ (8 * k))) = ((A + c * 256 ^ k : Nat) : Int) := by
  have e : 256 ^ k = 2 ^ (8 * k) := by rw [Nat.pow_mul]
  have h1 : 256 ^ k * 256 ≤ 18446744073709551616 := by
    have : 256 ^ (k + 1) ≤ 256 ^ 8 := Nat.pow_le_pow_right (by omega) (by omega)
    rw [Nat.pow_succ] at this; omega
  have h2 : c * 256 ^ k < 18446744073709551616 := by
    have : c * 256 ^ k ≤ 255 * 256 ^ k := Nat.mul_le_mul_right _ (by omega)
    have : 0 < 256 ^ k := Nat.pow_pos (by omega)
    omega
  have w1 : IntKind.u64.wrap (c : Int) = (c : Int) := by rw [IntKind.wrap_u64]; omega
  have w2 : (c : Int) * 2 ^ (8 * k) = ((c * 256 ^ k : Nat) : Int) := by rw [e]; simp
  have w3 : IntKind.u64.wrap ((c * 256 ^ k : Nat) : Int) = ((c * 256 ^ k : Nat) : Int) := by rw [IntKind.wrap_u64]; omega
  rw [w1, w2, w3, u64_or_nat _ _ (by omega) h2]
  have h3 := Nat.shiftLeft_add_eq_or_of_lt (i := 8 * k) (b := A) (by rw [← e]; exact hA) c
  rw [Nat.shiftLeft_eq, ← e] at h3
  rw [Nat.or_comm, ← h3, Nat.add_comm]

theorem num_take_lt (xs : List UInt8) (k : Nat) (hk : k ≤ xs.length) : num (xs.take k) < 256 ^ k := by
  have := num_lt (xs.take k)
  rwa [List.length_take, Nat.min_eq_left hk] at this
theorem num_take_lt64 (xs : List UInt8) (k : Nat) (hk : k ≤ 8) : num (xs.take k) < 18446744073709551616 := by
  have h1 := num_lt (xs.take k)
  have h2 : 256 ^ (xs.take k).length ≤ 256 ^ 8 := Nat.pow_le_pow_right (by omega) (by simp; omega)
  omega
theorem or_num (t : ByteArray) (k : Nat) (h : k < t.size) (h8 : k < 8) :
    bits .or .u64 ((num (t.data.toList.take k) : Nat) : Int) (IntKind.u64.wrap (IntKind.u64.wrap ((t[k].toNat : Nat) : Int) * 2 ^ (8 * k))) = ((num (t.data.toList.take (k + 1)) : Nat) : Int) := by
  have hl : k ≤ t.data.toList.length := by simp only [Array.length_toList]; exact Nat.le_of_lt h
  rw [or_step _ _ _ (num_take_lt _ _ hl) t[k].toNat_lt h8, take_snoc t k h, num_snoc, List.length_take, Nat.min_eq_left hl]

theorem getNumber_loop (w : World) (b : Nat) (s : ByteArray) (n : Nat) (hn : n ≤ s.size) (h8 : n ≤ 8) (h : GetAt w b s 0) :
    Calls Try.prog 34 #[.pointer (some ⟨b, 0, none⟩), .int .i64 n] w fun r w' => r = .returned (.int .i64 (wrap64 (num (s.data.toList.take n)))) ∧ GetAt w' b (s.extract n s.size) 0 ∧ Fr b w w' := by
  obtain ⟨t, ht⟩ : ∃ t, t = s.extract 0 n := ⟨_, rfl⟩
  have hts : t.size = n := by rw [ht, ByteArray.size_extract]; omega
  have H := getRaw_ok w b s n hn h
  rw [← ht] at H
  have htl : s.data.toList.take n = t.data.toList := by rw [ht]; simp [ByteArray.data_extract]
  rw [htl]
  clear htl ht hn
  have HH := Lib.hid H
  clear H h
  go_enter Try.func34, Try.ntmps34
  go_wp2_with (go_at_call 43; refine HH.out.mono ?_; rintro e w' ⟨rfl, h1, h2⟩)
  go_loop [6, 7, 13] (fun v j i => ∃ k : Nat, k ≤ n ∧ i = .int .i64 k ∧ v = .int .u64 (num (t.data.toList.take k) : Nat)) (fun _ _ i => n - (intOf i).toNat)
  case atStart => exact ⟨0, Nat.zero_le _, rfl, rfl⟩
  case round =>
    obtain ⟨k, hk, rfl, rfl⟩ := hrel
    by_cases hlt : k < n
    · have hor := Lib.hid (or_num t k (by omega) (by omega))
      go_wp2
      refine ⟨⟨k + 1, by omega, by go_num, congrArg _ hor.out⟩, by simp [intOf]; omega⟩
    · obtain rfl : k = n := by omega
      have e : t.data.toList.take k = t.data.toList := List.take_of_length_le (by rw [← hts]; simp)
      have E := Lib.hid e
      clear e
      go_wp2
      go_ret
      refine ⟨?_, h1, h2⟩
      rw [E.out]
      rfl

/-- what number comes to -/
def getNum (n : Nat) (s : ByteArray) (bad : Int) : Int × ByteArray × Int :=
  if bad = 0 then (if n ≤ s.size then (wrap64 (num (s.data.toList.take n)), s.extract n s.size, 0) else (0, ⟨#[]⟩, 5)) else (0, s, bad)

theorem getNumber_none (w : World) (b : Nat) (s' : ByteArray) (bad' : Int) (n : Nat)
    (H : Calls Try.prog 43 #[.pointer (some ⟨b, 0, none⟩), .int .i64 n] w fun r w' => r = .returned (.string ⟨#[]⟩) ∧ GetAt w' b s' bad' ∧ Fr b w w') :
    Calls Try.prog 34 #[.pointer (some ⟨b, 0, none⟩), .int .i64 n] w fun r w' => r = .returned (.int .i64 0) ∧ GetAt w' b s' bad' ∧ Fr b w w' := by
  have HH := Lib.hid H
  clear H
  go_enter Try.func34, Try.ntmps34
  go_wp2_with (go_at_call 43; refine HH.out.mono ?_; rintro e w' ⟨rfl, h1, h2⟩)
  refine wp_loop_rounds 1 ?_
  rw [rounds_succ]
  go_wp2
  go_ret
  exact ⟨rfl, h1, h2⟩
theorem getNumber_nil (w : World) (n : Nat) :
    Calls Try.prog 34 #[.pointer none, .int .i64 n] w fun r w' => r = .returned (.int .i64 0) ∧ w = w' := by
  go_enter Try.func34, Try.ntmps34
  go_wp2_with (go_at_call 43; refine (getRaw_nil _ _).mono ?_; rintro e w' ⟨rfl, rfl⟩)
  refine wp_loop_rounds 1 ?_
  rw [rounds_succ]
  go_wp2
  go_ret
  exact ⟨rfl, rfl⟩

theorem getNumber_any (w : World) (b : Nat) (s : ByteArray) (bad : Int) (n : Nat) (h8 : n ≤ 8) (h : GetAt w b s bad) :
    Calls Try.prog 34 #[.pointer (some ⟨b, 0, none⟩), .int .i64 n] w fun r w' => r = .returned (.int .i64 (getNum n s bad).1) ∧ GetAt w' b (getNum n s bad).2.1 (getNum n s bad).2.2 ∧ Fr b w w' := by
  unfold getNum
  by_cases hbad : bad = 0
  · subst hbad
    rw [if_pos rfl]
    by_cases hn : n ≤ s.size
    · rw [if_pos hn]
      exact getNumber_loop w b s n hn h8 h
    · rw [if_neg hn]
      exact getNumber_none w b _ 5 n (getRaw_over w b s n (by omega) h)
  · rw [if_neg hbad]
    exact getNumber_none w b _ bad n ((getRaw_bad w b s bad n hbad h).mono fun _ _ ⟨a, c⟩ => ⟨a, c ▸ h, c ▸ Fr.refl _ _⟩)

/-- what Raw comes to -/
def getStr (n : Int) (s : ByteArray) (bad : Int) : ByteArray × ByteArray × Int :=
  if bad = 0 then (if n < 0 then (⟨#[]⟩, ⟨#[]⟩, 1) else if n ≤ s.size then (s.extract 0 n.toNat, s.extract n.toNat s.size, 0) else (⟨#[]⟩, ⟨#[]⟩, 5)) else (⟨#[]⟩, s, bad)

theorem getRaw_any (w : World) (b : Nat) (s : ByteArray) (bad n : Int) (h : GetAt w b s bad) :
    Calls Try.prog 43 #[.pointer (some ⟨b, 0, none⟩), .int .i64 n] w fun r w' => r = .returned (.string (getStr n s bad).1) ∧ GetAt w' b (getStr n s bad).2.1 (getStr n s bad).2.2 ∧ Fr b w w' := by
  unfold getStr
  by_cases hbad : bad = 0
  · subst hbad
    rw [if_pos rfl]
    by_cases hn : n < 0
    · rw [if_pos hn]
      exact getRaw_neg w b s n hn h
    · obtain ⟨k, rfl⟩ := Int.eq_ofNat_of_zero_le (show 0 ≤ n by omega)
      rw [if_neg hn]
      by_cases hk : k ≤ s.size
      · rw [if_pos (by omega)]
        exact getRaw_ok w b s k hk h
      · rw [if_neg (by omega)]
        exact getRaw_over w b s k (by omega) h
  · rw [if_neg hbad]
    exact (getRaw_bad w b s bad n hbad h).mono fun _ _ ⟨a, c⟩ => ⟨a, c ▸ h, c ▸ Fr.refl _ _⟩

/-- what Text comes to -/
def getTxt (s : ByteArray) (bad : Int) : ByteArray × ByteArray × Int := getStr (getNum 2 s bad).1 (getNum 2 s bad).2.1 (getNum 2 s bad).2.2

/-- what End comes to -/
def getFin (s : ByteArray) (bad : Int) : Int := if 0 < s.size then 6 else bad


end Go.Proofs.Ytpbaodjmkdcihaa.PP
