/-
  Texts of the proof of SaidPlay8b.
-/
import Derived.Test.YtbkngnjkaledlaaGreatMp27
set_option maxHeartbeats 8000000
set_option maxRecDepth 100000
namespace Go.Proofs.YtbkngnjkaledlaaGreat.P5
open Go Go.RowKit Go.Lib P0
def GetAt (w : World) (b : Nat) (s : ByteArray) (bad : Int) : Prop := w.heap[b]? = some (.cells #[.string s, .int .i64 bad] 207 (0, 0))
theorem GetAt.c0 {w : World} {b : Nat} {s : ByteArray} {bad : Int} (h : GetAt w b s bad) : w.cell? ⟨b, 0, none⟩ = some (.string s) := by unfold GetAt at h; rw [cell_at h]; rfl
theorem GetAt.c1 {w : World} {b : Nat} {s : ByteArray} {bad : Int} (h : GetAt w b s bad) : w.cell? ⟨b, 1, none⟩ = some (.int .i64 bad) := by unfold GetAt at h; rw [cell_at h]; rfl
theorem GetAt.f {w : World} {b : Nat} {s : ByteArray} {bad : Int} (h : GetAt w b s bad) (j : Nat) : w.frozen? ⟨b, j, none⟩ = false := free_at h j
theorem GetAt.set0 {w : World} {b : Nat} {s : ByteArray} {bad : Int} (h : GetAt w b s bad) (t : ByteArray) : GetAt (w.setCell ⟨b, 0, none⟩ (.string t)) b t bad := by unfold GetAt at *; rw [set_at h]; rfl
theorem GetAt.set1 {w : World} {b : Nat} {s : ByteArray} {bad : Int} (h : GetAt w b s bad) (e : Int) : GetAt (w.setCell ⟨b, 1, none⟩ (.int .i64 e)) b s e := by unfold GetAt at *; rw [set_at h]; rfl
theorem GetAt.below {w w' : World} {b : Nat} {s : ByteArray} {bad : Int} (h : GetAt w b s bad) (hb : Below w.heap.size w w') : GetAt w' b s bad := by
 unfold GetAt at *; rw [hb.block b (lt_of_block h)]; exact h
theorem getBad_any (w : World) (b : Nat) (s : ByteArray) (bad : Int) (h : GetAt w b s bad) :
  Calls Tryz.prog 191 #[.pointer (some ⟨b, 0, none⟩)] w fun r w' => r = .returned (.int .i64 bad) ∧ w = w' := by
 have c1 := h.c1
 clear h
 go_enter Tryz.func191, Tryz.ntmps191
 go_wp2
 go_ret
 exact ⟨rfl, rfl⟩
theorem getFail_any (w : World) (b : Nat) (s : ByteArray) (bad e : Int) (h : GetAt w b s bad) :
  Calls Tryz.prog 192 #[.pointer (some ⟨b, 0, none⟩), .int .i64 e] w fun r w' => r = .returned (.tuple #[]) ∧ GetAt w' b ⟨#[]⟩ e ∧ Fr b w w' := by
 have c0 := h.c0
 have f0 := h.f 0
 have g1 := h.set0 ⟨#[]⟩
 have c1 := g1.c1
 have f1 := g1.f 1
 have g2 := g1.set1 e
 have hB : Fr b w ((w.setCell ⟨b, 0, none⟩ (.string ⟨#[]⟩)).setCell ⟨b, 1, none⟩ (.int .i64 e)) := ((Fr.refl b w).setCell _ _).setCell _ _
 clear h g1
 go_enter Tryz.func192, Tryz.ntmps192
 go_wp2
 go_end0
 exact ⟨rfl, g2, hB⟩
theorem getRaw_bad (w : World) (b : Nat) (s : ByteArray) (bad n : Int) (hbad : bad ≠ 0) (h : GetAt w b s bad) :
  Calls Tryz.prog 180 #[.pointer (some ⟨b, 0, none⟩), .int .i64 n] w fun r w' => r = .returned (.string ⟨#[]⟩) ∧ w = w' := by
 have k : (bad != 0) = true := by simpa using hbad
 go_enter Tryz.func180, Tryz.ntmps180
 go_wp2_with (go_at_call 191; refine (getBad_any _ b s bad h).mono ?_; rintro e w' ⟨rfl, rfl⟩)
 go_ret
 exact ⟨rfl, rfl⟩
theorem getRaw_over (w : World) (b : Nat) (s : ByteArray) (n : Nat) (hn : s.size < n) (h : GetAt w b s 0) :
  Calls Tryz.prog 180 #[.pointer (some ⟨b, 0, none⟩), .int .i64 n] w fun r w' => r = .returned (.string ⟨#[]⟩) ∧ GetAt w' b ⟨#[]⟩ 5 ∧ Fr b w w' := by
 have k : decide ((n : Int) < 0) = false := by simp
 have k2 : decide (s.size < n) = true := by simpa using hn
 have k3 : decide ((s.size : Int) < (n : Int)) = true := by simpa using hn
 have c0 := h.c0
 go_enter Tryz.func180, Tryz.ntmps180
 go_wp2_with (first | (go_at_call 191; refine (getBad_any _ b s 0 h).mono ?_; rintro e w' ⟨rfl, rfl⟩) | (go_at_call 192; refine (getFail_any _ b s 0 5 h).mono ?_; rintro e w' ⟨rfl, h1, h2⟩))
 go_ret
 exact ⟨rfl, h1, h2⟩
theorem getRaw_ok (w : World) (b : Nat) (s : ByteArray) (n : Nat) (hn : n ≤ s.size) (h : GetAt w b s 0) :
  Calls Tryz.prog 180 #[.pointer (some ⟨b, 0, none⟩), .int .i64 n] w fun r w' => r = .returned (.string (s.extract 0 n)) ∧ GetAt w' b (s.extract n s.size) 0 ∧ Fr b w w' := by
 have k : decide ((n : Int) < 0) = false := by simp
 have k2 : decide (s.size < n) = false := by simpa using hn
 have k3 : decide ((s.size : Int) < (n : Int)) = false := by simpa using hn
 have c0 := h.c0
 have f0 := h.f 0
 have g1 := h.set0 (s.extract n s.size)
 have hB : Fr b w (w.setCell ⟨b, 0, none⟩ (.string (s.extract n s.size))) := ((Fr.refl b w).setCell _ _)
 go_enter Tryz.func180, Tryz.ntmps180
 go_wp2_with (first | (go_at_call 191; refine (getBad_any _ b s 0 h).mono ?_; rintro e w' ⟨rfl, rfl⟩))
 go_ret
 exact ⟨rfl, g1, hB⟩
theorem num_snoc (xs : List UInt8) (c : UInt8) : num (xs ++ [c]) = num xs + c.toNat * 256 ^ xs.length := by
 induction xs with
 | nil => simp [num]
 | cons a r ih => simp only [List.cons_append, num, ih, List.length_cons, Nat.pow_succ, Nat.mul_add, ← Nat.add_assoc]; rw [show 256 * (c.toNat * 256 ^ r.length) = c.toNat * (256 ^ r.length * 256) by rw [Nat.mul_left_comm, Nat.mul_comm 256]]
theorem take_snoc (s : ByteArray) (k : Nat) (h : k < s.size) : s.data.toList.take (k + 1) = s.data.toList.take k ++ [s[k]] := by
 rw [List.take_succ_eq_append_getElem (by simpa using h)]; rfl
theorem or_step (A c k : Nat) (hA : A < 256 ^ k) (hc : c < 256) (hk : k < 8) :
  bits .or .u64 (A : Int) (IntKind.u64.wrap (IntKind.u64.wrap (c : Int) * 2 ^ (8 * k))) = ((A + c * 256 ^ k : Nat) : Int) := by
 have e : 256 ^ k = 2 ^ (8 * k) := by rw [Nat.pow_mul]
 have h1 : 256 ^ k * 256 ≤ 18446744073709551616 := by
  have : 256 ^ (k + 1) ≤ 256 ^ 8 := Nat.pow_le_pow_right (by omega) (by omega)
  rw [Nat.pow_succ] at this; omega
 have h2 : c * 256 ^ k < 18446744073709551616 := by
  have : c * 256 ^ k ≤ 255 * 256 ^ k := Nat.mul_le_mul_right _ (by omega)
  have : 0 < 256 ^ k := Nat.pow_pos (by omega)
  omega
 have w1 : IntKind.u64.wrap (c : Int) = (c : Int) := by rw [IntKind.wrap_u64]; omega
 have w2 : (c : Int) * 2 ^ (8 * k) = ((c * 256 ^ k : Nat) : Int) := by rw [e]; simp
 have w3 : IntKind.u64.wrap ((c * 256 ^ k : Nat) : Int) = ((c * 256 ^ k : Nat) : Int) := by rw [IntKind.wrap_u64]; omega
 rw [w1, w2, w3, u64_or_nat _ _ (by omega) h2]
 have h3 := Nat.shiftLeft_add_eq_or_of_lt (i := 8 * k) (b := A) (by rw [← e]; exact hA) c
 rw [Nat.shiftLeft_eq, ← e] at h3
 rw [Nat.or_comm, ← h3, Nat.add_comm]
theorem num_take_lt (xs : List UInt8) (k : Nat) (hk : k ≤ xs.length) : num (xs.take k) < 256 ^ k := by
 have := num_lt (xs.take k)
 rwa [List.length_take, Nat.min_eq_left hk] at this
theorem or_num (t : ByteArray) (k : Nat) (h : k < t.size) (h8 : k < 8) :
  bits .or .u64 ((num (t.data.toList.take k) : Nat) : Int) (IntKind.u64.wrap (IntKind.u64.wrap ((t[k].toNat : Nat) : Int) * 2 ^ (8 * k))) = ((num (t.data.toList.take (k + 1)) : Nat) : Int) := by
 have hl : k ≤ t.data.toList.length := by simp only [Array.length_toList]; exact Nat.le_of_lt h
 rw [or_step _ _ _ (num_take_lt _ _ hl) t[k].toNat_lt h8, take_snoc t k h, num_snoc, List.length_take, Nat.min_eq_left hl]
theorem getNumber_loop (w : World) (b : Nat) (s : ByteArray) (n : Nat) (hn : n ≤ s.size) (h8 : n ≤ 8) (h : GetAt w b s 0) :
  Calls Tryz.prog 155 #[.pointer (some ⟨b, 0, none⟩), .int .i64 n] w fun r w' => r = .returned (.int .i64 (wrap64 (num (s.data.toList.take n)))) ∧ GetAt w' b (s.extract n s.size) 0 ∧ Fr b w w' := by
 obtain ⟨t, ht⟩ : ∃ t, t = s.extract 0 n := ⟨_, rfl⟩
 have hts : t.size = n := by rw [ht, ByteArray.size_extract]; omega
 have H := getRaw_ok w b s n hn h
 rw [← ht] at H
 have htl : s.data.toList.take n = t.data.toList := by rw [ht]; simp [ByteArray.data_extract]
 rw [htl]
 clear htl ht hn
 have HH := Lib.hid H
 clear H h
 go_enter Tryz.func155, Tryz.ntmps155
 go_wp2_with (go_at_call 180; refine HH.out.mono ?_; rintro e w' ⟨rfl, h1, h2⟩)
 go_loop [6, 7, 13] (fun v j i => ∃ k : Nat, k ≤ n ∧ i = .int .i64 k ∧ v = .int .u64 (num (t.data.toList.take k) : Nat)) (fun _ _ i => n - (intOf i).toNat)
 case atStart => exact ⟨0, Nat.zero_le _, rfl, rfl⟩
 case round =>
  obtain ⟨k, hk, rfl, rfl⟩ := hrel
  by_cases hlt : k < n
  ·have hor := Lib.hid (or_num t k (by omega) (by omega))
   go_wp2
   refine ⟨⟨k + 1, by omega, by go_num, congrArg _ hor.out⟩, by simp [intOf]; omega⟩
  ·obtain rfl : k = n := by omega
   have e : t.data.toList.take k = t.data.toList := List.take_of_length_le (by rw [← hts]; simp)
   have E := Lib.hid e
   clear e
   go_wp2
   go_ret
   refine ⟨?_, h1, h2⟩
   rw [E.out]
   rfl
def getNum (n : Nat) (s : ByteArray) (bad : Int) : Int × ByteArray × Int :=
 if bad = 0 then (if n ≤ s.size then (wrap64 (num (s.data.toList.take n)), s.extract n s.size, 0) else (0, ⟨#[]⟩, 5)) else (0, s, bad)
theorem getNumber_none (w : World) (b : Nat) (s' : ByteArray) (bad' : Int) (n : Nat)
  (H : Calls Tryz.prog 180 #[.pointer (some ⟨b, 0, none⟩), .int .i64 n] w fun r w' => r = .returned (.string ⟨#[]⟩) ∧ GetAt w' b s' bad' ∧ Fr b w w') :
  Calls Tryz.prog 155 #[.pointer (some ⟨b, 0, none⟩), .int .i64 n] w fun r w' => r = .returned (.int .i64 0) ∧ GetAt w' b s' bad' ∧ Fr b w w' := by
 have HH := Lib.hid H
 clear H
 go_enter Tryz.func155, Tryz.ntmps155
 go_wp2_with (go_at_call 180; refine HH.out.mono ?_; rintro e w' ⟨rfl, h1, h2⟩)
 refine wp_loop_rounds 1 ?_
 rw [rounds_succ]
 go_wp2
 go_ret
 exact ⟨rfl, h1, h2⟩
theorem getNumber_any (w : World) (b : Nat) (s : ByteArray) (bad : Int) (n : Nat) (h8 : n ≤ 8) (h : GetAt w b s bad) :
  Calls Tryz.prog 155 #[.pointer (some ⟨b, 0, none⟩), .int .i64 n] w fun r w' => r = .returned (.int .i64 (getNum n s bad).1) ∧ GetAt w' b (getNum n s bad).2.1 (getNum n s bad).2.2 ∧ Fr b w w' := by
 unfold getNum
 by_cases hbad : bad = 0
 ·subst hbad
  rw [if_pos rfl]
  by_cases hn : n ≤ s.size
  ·rw [if_pos hn]
   exact getNumber_loop w b s n hn h8 h
  ·rw [if_neg hn]
   exact getNumber_none w b _ 5 n (getRaw_over w b s n (by omega) h)
 ·rw [if_neg hbad]
  exact getNumber_none w b _ bad n ((getRaw_bad w b s bad n hbad h).mono fun _ _ ⟨a, c⟩ => ⟨a, c ▸ h, c ▸ Fr.refl _ _⟩)
theorem getFrom_any (w : World) (s : ByteArray) :
  Calls Tryz.prog 136 #[.string s] w fun r w' => r = .returned (.pointer (some ⟨w.heap.size, 0, none⟩)) ∧ GetAt w' w.heap.size s 0 ∧ Below w.heap.size w w' ∧ w'.heap.size = w.heap.size + 1 := by
 have h : GetAt (w.alloc (.cells #[.string s, .int .i64 0] 207)) w.heap.size s 0 := new_at w _ _
 have hB : Below w.heap.size w (w.alloc (.cells #[.string s, .int .i64 0] 207)) := (Below.refl _ w).alloc (Nat.le_refl _) _
 have hz : (w.alloc (.cells #[.string s, .int .i64 0] 207)).heap.size = w.heap.size + 1 := by simp
 have H := Lib.hid (And.intro h (And.intro hB hz))
 clear h hB hz
 go_enter Tryz.func136, Tryz.ntmps136
 go_wp2
 go_ret
 exact ⟨rfl, H.out⟩
theorem getHalf_any (w : World) (b : Nat) (s : ByteArray) (bad : Int) (h : GetAt w b s bad) :
  Calls Tryz.prog 137 #[.pointer (some ⟨b, 0, none⟩)] w fun r w' => r = .returned (.int .i64 (getNum 2 s bad).1) ∧ GetAt w' b (getNum 2 s bad).2.1 (getNum 2 s bad).2.2 ∧ Fr b w w' := by
 have H := Lib.hid (getNumber_any w b s bad 2 (by omega) h)
 clear h
 go_enter Tryz.func137, Tryz.ntmps137
 go_wp2_with (go_at_call 155; refine H.out.mono ?_; rintro e w' ⟨rfl, h1, h2⟩)
 go_ret
 exact ⟨rfl, h1, h2⟩
theorem getInt_any (w : World) (b : Nat) (s : ByteArray) (bad : Int) (h : GetAt w b s bad) :
  Calls Tryz.prog 138 #[.pointer (some ⟨b, 0, none⟩)] w fun r w' => r = .returned (.int .i64 (getNum 8 s bad).1) ∧ GetAt w' b (getNum 8 s bad).2.1 (getNum 8 s bad).2.2 ∧ Fr b w w' := by
 have H := Lib.hid (getNumber_any w b s bad 8 (by omega) h)
 clear h
 go_enter Tryz.func138, Tryz.ntmps138
 go_wp2_with (go_at_call 155; refine H.out.mono ?_; rintro e w' ⟨rfl, h1, h2⟩)
 go_ret
 exact ⟨rfl, h1, h2⟩
end Go.Proofs.YtbkngnjkaledlaaGreat.P5
namespace Go.Proofs.YtbkngnjkaledlaaGreat.P5
open Go Go.RowKit Go.Lib P0 P2
theorem valid_any (w : World) (p : Pg) :
  Calls Tryz.prog 84 #[p.v] w fun r w' => r = .returned (.bool (decide p.ok)) ∧ Below w.heap.size w w' := by
 obtain ⟨k, id, tx, body⟩ := p
 by_cases hk : k = 1 ∨ k = 2 ∨ k = 3 ∨ k = 4 ∨ k = 5
 ·by_cases h0 : 0 ≤ id
  ·by_cases h1 : id < 4000
   ·by_cases h2 : 0 ≤ tx
    ·by_cases h3 : tx ≤ 1099511627776
     ·by_cases h4 : body.size ≤ 232
      ·have e : decide (Pg.ok ⟨k, id, tx, body⟩) = true := decide_eq_true ⟨show (1 : Int) ≤ k by omega, show k ≤ 5 by omega, show (0 : Int) ≤ id by omega, show id < 4000 by omega, show (0 : Int) ≤ tx by omega, show tx ≤ 1099511627776 by omega, show body.size ≤ 232 by omega⟩
       rw [e]
       clear e
       have b0 : decide ((0 : Int) ≤ id) = true := decide_eq_true (by omega)
       have b1 : decide (id < 4000) = true := decide_eq_true (by omega)
       have b2 : decide ((0 : Int) ≤ tx) = true := decide_eq_true (by omega)
       have b3 : decide (tx ≤ 1099511627776) = true := decide_eq_true (by omega)
       have b4 : decide ((body.size : Int) ≤ 232) = true := decide_eq_true (by omega)
       have b4' : decide (body.size ≤ 232) = true := decide_eq_true (by omega)
       rcases hk with rfl | rfl | rfl | rfl | rfl
       all_goals
        unfold Pg.v
        go_enter Tryz.func84, Tryz.ntmps84
        go_wp2
        go_ret
        exact ⟨rfl, below_new _ _⟩
      ·have e : decide (Pg.ok ⟨k, id, tx, body⟩) = false := decide_eq_false (fun h => by have := h.1; have := h.2.1; have := h.2.2.1; have := h.2.2.2.1; have := h.2.2.2.2.1; have := h.2.2.2.2.2.1; have := h.2.2.2.2.2.2; simp only at *; omega)
       rw [e]
       clear e
       have b0 : decide ((0 : Int) ≤ id) = true := decide_eq_true (by omega)
       have b1 : decide (id < 4000) = true := decide_eq_true (by omega)
       have b2 : decide ((0 : Int) ≤ tx) = true := decide_eq_true (by omega)
       have b3 : decide (tx ≤ 1099511627776) = true := decide_eq_true (by omega)
       have b4 : decide ((body.size : Int) ≤ 232) = false := decide_eq_false (by omega)
       have b4' : decide (body.size ≤ 232) = false := decide_eq_false (by omega)
       rcases hk with rfl | rfl | rfl | rfl | rfl
       all_goals
        unfold Pg.v
        go_enter Tryz.func84, Tryz.ntmps84
        go_wp2
        go_ret
        exact ⟨rfl, below_new _ _⟩
     ·have e : decide (Pg.ok ⟨k, id, tx, body⟩) = false := decide_eq_false (fun h => by have := h.1; have := h.2.1; have := h.2.2.1; have := h.2.2.2.1; have := h.2.2.2.2.1; have := h.2.2.2.2.2.1; have := h.2.2.2.2.2.2; simp only at *; omega)
      rw [e]
      clear e
      have b0 : decide ((0 : Int) ≤ id) = true := decide_eq_true (by omega)
      have b1 : decide (id < 4000) = true := decide_eq_true (by omega)
      have b2 : decide ((0 : Int) ≤ tx) = true := decide_eq_true (by omega)
      have b3 : decide (tx ≤ 1099511627776) = false := decide_eq_false (by omega)
      rcases hk with rfl | rfl | rfl | rfl | rfl
      all_goals
       unfold Pg.v
       go_enter Tryz.func84, Tryz.ntmps84
       go_wp2
       go_ret
       exact ⟨rfl, below_new _ _⟩
    ·have e : decide (Pg.ok ⟨k, id, tx, body⟩) = false := decide_eq_false (fun h => by have := h.1; have := h.2.1; have := h.2.2.1; have := h.2.2.2.1; have := h.2.2.2.2.1; have := h.2.2.2.2.2.1; have := h.2.2.2.2.2.2; simp only at *; omega)
     rw [e]
     clear e
     have b0 : decide ((0 : Int) ≤ id) = true := decide_eq_true (by omega)
     have b1 : decide (id < 4000) = true := decide_eq_true (by omega)
     have b2 : decide ((0 : Int) ≤ tx) = false := decide_eq_false (by omega)
     rcases hk with rfl | rfl | rfl | rfl | rfl
     all_goals
      unfold Pg.v
      go_enter Tryz.func84, Tryz.ntmps84
      go_wp2
      go_ret
      exact ⟨rfl, below_new _ _⟩
   ·have e : decide (Pg.ok ⟨k, id, tx, body⟩) = false := decide_eq_false (fun h => by have := h.1; have := h.2.1; have := h.2.2.1; have := h.2.2.2.1; have := h.2.2.2.2.1; have := h.2.2.2.2.2.1; have := h.2.2.2.2.2.2; simp only at *; omega)
    rw [e]
    clear e
    have b0 : decide ((0 : Int) ≤ id) = true := decide_eq_true (by omega)
    have b1 : decide (id < 4000) = false := decide_eq_false (by omega)
    rcases hk with rfl | rfl | rfl | rfl | rfl
    all_goals
     unfold Pg.v
     go_enter Tryz.func84, Tryz.ntmps84
     go_wp2
     go_ret
     exact ⟨rfl, below_new _ _⟩
  ·have e : decide (Pg.ok ⟨k, id, tx, body⟩) = false := decide_eq_false (fun h => by have := h.1; have := h.2.1; have := h.2.2.1; have := h.2.2.2.1; have := h.2.2.2.2.1; have := h.2.2.2.2.2.1; have := h.2.2.2.2.2.2; simp only at *; omega)
   rw [e]
   clear e
   have b0 : decide ((0 : Int) ≤ id) = false := decide_eq_false (by omega)
   rcases hk with rfl | rfl | rfl | rfl | rfl
   all_goals
    unfold Pg.v
    go_enter Tryz.func84, Tryz.ntmps84
    go_wp2
    go_ret
    exact ⟨rfl, below_new _ _⟩
 ·have e : decide (Pg.ok ⟨k, id, tx, body⟩) = false := decide_eq_false (fun h => by have := h.1; have := h.2.1; have := h.2.2.1; have := h.2.2.2.1; have := h.2.2.2.2.1; have := h.2.2.2.2.2.1; have := h.2.2.2.2.2.2; simp only at *; omega)
  rw [e]
  clear e
  have g1 : (k == 1) = false := by simp; omega
  have g2 : (k == 2) = false := by simp; omega
  have g3 : (k == 3) = false := by simp; omega
  have g4 : (k == 4) = false := by simp; omega
  have g5 : (k == 5) = false := by simp; omega
  clear hk
  unfold Pg.v
  go_enter Tryz.func84, Tryz.ntmps84
  go_wp2
  go_ret
  exact ⟨rfl, below_new _ _⟩
theorem rValid_any (w : World) (p : Pg) :
  Calls Tryz.prog 28 #[p.v] w fun r w' => r = .returned (.bool (decide p.ok)) ∧ Below w.heap.size w w' := by
 obtain ⟨k, id, tx, body⟩ := p
 by_cases hk : 1 ≤ k ∧ k ≤ 5
 ·by_cases h0 : 0 ≤ id
  ·by_cases h1 : id < 4000
   ·by_cases h2 : 0 ≤ tx
    ·by_cases h3 : tx ≤ 1099511627776
     ·by_cases h4 : body.size ≤ 232
      ·have e : decide (Pg.ok ⟨k, id, tx, body⟩) = true := decide_eq_true ⟨show (1 : Int) ≤ k by omega, show k ≤ 5 by omega, show (0 : Int) ≤ id by omega, show id < 4000 by omega, show (0 : Int) ≤ tx by omega, show tx ≤ 1099511627776 by omega, show body.size ≤ 232 by omega⟩
       rw [e]
       clear e
       have b0 : decide ((0 : Int) ≤ id) = true := decide_eq_true (by omega)
       have b1 : decide (id < 4000) = true := decide_eq_true (by omega)
       have b2 : decide ((0 : Int) ≤ tx) = true := decide_eq_true (by omega)
       have b3 : decide (tx ≤ 1099511627776) = true := decide_eq_true (by omega)
       have b4 : decide ((body.size : Int) ≤ 232) = true := decide_eq_true (by omega)
       have b4' : decide (body.size ≤ 232) = true := decide_eq_true (by omega)
       have g0 : decide ((1 : Int) ≤ k) = true := decide_eq_true (by omega)
       have g1 : decide (k ≤ 5) = true := decide_eq_true (by omega)
       clear hk
       unfold Pg.v
       go_enter Tryz.func28, Tryz.ntmps28
       go_wp2
       go_ret
       exact ⟨rfl, below_new _ _⟩
      ·have e : decide (Pg.ok ⟨k, id, tx, body⟩) = false := decide_eq_false (fun h => by have := h.1; have := h.2.1; have := h.2.2.1; have := h.2.2.2.1; have := h.2.2.2.2.1; have := h.2.2.2.2.2.1; have := h.2.2.2.2.2.2; simp only at *; omega)
       rw [e]
       clear e
       have b0 : decide ((0 : Int) ≤ id) = true := decide_eq_true (by omega)
       have b1 : decide (id < 4000) = true := decide_eq_true (by omega)
       have b2 : decide ((0 : Int) ≤ tx) = true := decide_eq_true (by omega)
       have b3 : decide (tx ≤ 1099511627776) = true := decide_eq_true (by omega)
       have b4 : decide ((body.size : Int) ≤ 232) = false := decide_eq_false (by omega)
       have b4' : decide (body.size ≤ 232) = false := decide_eq_false (by omega)
       have g0 : decide ((1 : Int) ≤ k) = true := decide_eq_true (by omega)
       have g1 : decide (k ≤ 5) = true := decide_eq_true (by omega)
       clear hk
       unfold Pg.v
       go_enter Tryz.func28, Tryz.ntmps28
       go_wp2
       go_ret
       exact ⟨rfl, below_new _ _⟩
     ·have e : decide (Pg.ok ⟨k, id, tx, body⟩) = false := decide_eq_false (fun h => by have := h.1; have := h.2.1; have := h.2.2.1; have := h.2.2.2.1; have := h.2.2.2.2.1; have := h.2.2.2.2.2.1; have := h.2.2.2.2.2.2; simp only at *; omega)
      rw [e]
      clear e
      have b0 : decide ((0 : Int) ≤ id) = true := decide_eq_true (by omega)
      have b1 : decide (id < 4000) = true := decide_eq_true (by omega)
      have b2 : decide ((0 : Int) ≤ tx) = true := decide_eq_true (by omega)
      have b3 : decide (tx ≤ 1099511627776) = false := decide_eq_false (by omega)
      have g0 : decide ((1 : Int) ≤ k) = true := decide_eq_true (by omega)
      have g1 : decide (k ≤ 5) = true := decide_eq_true (by omega)
      clear hk
      unfold Pg.v
      go_enter Tryz.func28, Tryz.ntmps28
      go_wp2
      go_ret
      exact ⟨rfl, below_new _ _⟩
    ·have e : decide (Pg.ok ⟨k, id, tx, body⟩) = false := decide_eq_false (fun h => by have := h.1; have := h.2.1; have := h.2.2.1; have := h.2.2.2.1; have := h.2.2.2.2.1; have := h.2.2.2.2.2.1; have := h.2.2.2.2.2.2; simp only at *; omega)
     rw [e]
     clear e
     have b0 : decide ((0 : Int) ≤ id) = true := decide_eq_true (by omega)
     have b1 : decide (id < 4000) = true := decide_eq_true (by omega)
     have b2 : decide ((0 : Int) ≤ tx) = false := decide_eq_false (by omega)
     have g0 : decide ((1 : Int) ≤ k) = true := decide_eq_true (by omega)
     have g1 : decide (k ≤ 5) = true := decide_eq_true (by omega)
     clear hk
     unfold Pg.v
     go_enter Tryz.func28, Tryz.ntmps28
     go_wp2
     go_ret
     exact ⟨rfl, below_new _ _⟩
   ·have e : decide (Pg.ok ⟨k, id, tx, body⟩) = false := decide_eq_false (fun h => by have := h.1; have := h.2.1; have := h.2.2.1; have := h.2.2.2.1; have := h.2.2.2.2.1; have := h.2.2.2.2.2.1; have := h.2.2.2.2.2.2; simp only at *; omega)
    rw [e]
    clear e
    have b0 : decide ((0 : Int) ≤ id) = true := decide_eq_true (by omega)
    have b1 : decide (id < 4000) = false := decide_eq_false (by omega)
    have g0 : decide ((1 : Int) ≤ k) = true := decide_eq_true (by omega)
    have g1 : decide (k ≤ 5) = true := decide_eq_true (by omega)
    clear hk
    unfold Pg.v
    go_enter Tryz.func28, Tryz.ntmps28
    go_wp2
    go_ret
    exact ⟨rfl, below_new _ _⟩
  ·have e : decide (Pg.ok ⟨k, id, tx, body⟩) = false := decide_eq_false (fun h => by have := h.1; have := h.2.1; have := h.2.2.1; have := h.2.2.2.1; have := h.2.2.2.2.1; have := h.2.2.2.2.2.1; have := h.2.2.2.2.2.2; simp only at *; omega)
   rw [e]
   clear e
   have b0 : decide ((0 : Int) ≤ id) = false := decide_eq_false (by omega)
   have g0 : decide ((1 : Int) ≤ k) = true := decide_eq_true (by omega)
   have g1 : decide (k ≤ 5) = true := decide_eq_true (by omega)
   clear hk
   unfold Pg.v
   go_enter Tryz.func28, Tryz.ntmps28
   go_wp2
   go_ret
   exact ⟨rfl, below_new _ _⟩
 ·by_cases hk1 : 1 ≤ k
  ·have e : decide (Pg.ok ⟨k, id, tx, body⟩) = false := decide_eq_false (fun h => by have := h.1; have := h.2.1; have := h.2.2.1; have := h.2.2.2.1; have := h.2.2.2.2.1; have := h.2.2.2.2.2.1; have := h.2.2.2.2.2.2; simp only at *; omega)
   rw [e]
   clear e
   have g0 : decide ((1 : Int) ≤ k) = true := decide_eq_true (by omega)
   have g1 : decide (k ≤ 5) = false := decide_eq_false (by omega)
   clear hk hk1
   unfold Pg.v
   go_enter Tryz.func28, Tryz.ntmps28
   go_wp2
   go_ret
   exact ⟨rfl, below_new _ _⟩
  ·have e : decide (Pg.ok ⟨k, id, tx, body⟩) = false := decide_eq_false (fun h => by have := h.1; have := h.2.1; have := h.2.2.1; have := h.2.2.2.1; have := h.2.2.2.2.1; have := h.2.2.2.2.2.1; have := h.2.2.2.2.2.2; simp only at *; omega)
   rw [e]
   clear e
   have g0 : decide ((1 : Int) ≤ k) = false := decide_eq_false (by omega)
   clear hk hk1
   unfold Pg.v
   go_enter Tryz.func28, Tryz.ntmps28
   go_wp2
   go_ret
   exact ⟨rfl, below_new _ _⟩
def zer (n : Nat) : ByteArray := str (List.replicate n 0)
theorem zer_size (n : Nat) : (zer n).size = n := by rw [zer, str_size, List.length_replicate]
theorem repeat_zero : ∀ n, Lib.repeatL [(0 : UInt8)] n = List.replicate n 0 := by
 intro n
 induction n with
 | zero => rfl
 | succ n ih =>
  show [0] ++ Lib.repeatL [0] n = _
  rw [ih]
  rfl
theorem repeat_zer (w : World) (n : Nat) (h : n ≤ 100000) : Calls Tryz.prog 91 #[.string ⟨#[0]⟩, .int .i64 n] w fun e w' => e = .returned (.string (zer n)) ∧ Below w.heap.size w w' := by
 have h := Tryz.strings_Repeat ⟨#[0]⟩ n w (by omega) (by show 1 * n ≤ _; omega)
 have e : (⟨(Lib.repeatL (⟨#[0]⟩ : ByteArray).data.toList n).toArray⟩ : ByteArray) = zer n := by
  unfold zer str
  rw [show (⟨#[0]⟩ : ByteArray).data.toList = [(0 : UInt8)] from rfl, repeat_zero]
 rw [e] at h
 exact h
theorem sClone_any (s : ByteArray) (w : World) (hs : s.size ≤ 281474976710656) : Calls Tryz.prog 32 #[.string s] w fun e w' => e = .returned (.string s) ∧ Below w.heap.size w w' := by
 have H := fun w' : World => Lib.hid (Tryz.stringslite_Clone s w' hs)
 go_enter Tryz.func32, Tryz.ntmps32
 go_wp2_with (go_at_call 82; refine (H _).out.mono ?_; rintro e w' ⟨rfl, hb⟩)
 go_ret
 exact ⟨rfl, hb⟩
def PCells (w : World) (a : Nat) (p : Pg) : Prop :=
 w.cell? ⟨a, 0, none⟩ = some (.int .i64 p.k) ∧ w.cell? ⟨a, 1, none⟩ = some (.int .i64 p.id) ∧ w.cell? ⟨a, 2, none⟩ = some (.int .i64 p.tx) ∧ w.cell? ⟨a, 3, none⟩ = some (.string p.body)
def Pg.cells (p : Pg) : Array Value := #[.int .i64 p.k, .int .i64 p.id, .int .i64 p.tx, .string p.body]
theorem Pg.pcells {w : World} {a : Nat} {p : Pg} (h : w.heap[a]? = some (.cells p.cells 47 (0, 0))) : PCells w a p :=
 ⟨(cell_at h 0).trans rfl, (cell_at h 1).trans rfl, (cell_at h 2).trans rfl, (cell_at h 3).trans rfl⟩
structure LSt (w0 : World) (a b : Nat) (p : Pg) (w : World) (xs : List UInt8) : Prop where
 put : PutIs w b xs 0
 page : w.heap[a]? = some (.cells p.cells 47 (0, 0))
 ne : a ≠ b
 below : Below w0.heap.size w0 w
 lo : w0.heap.size ≤ b
theorem LSt.step {w0 : World} {a b : Nat} {p : Pg} {w w' : World} {xs ys : List UInt8} (h : LSt w0 a b p w xs) (k : PutOwn w' b ys 0) (f : Fr b w w') : LSt w0 a b p w' ys :=
 ⟨.inl k, f.keeps a _ _ _ h.page (by decide) h.ne, h.ne, h.below.trans (f.below.mono h.lo), h.lo⟩
theorem LSt.over {w0 : World} {a b : Nat} {p : Pg} {w w' : World} {xs : List UInt8} (h : LSt w0 a b p w xs) (k : Below w.heap.size w w') : LSt w0 a b p w' xs :=
 ⟨h.put.below k, by rw [k.block a (lt_of_block h.page)]; exact h.page, h.ne, thenBelow h.below k, h.lo⟩
theorem LSt.drew {w0 : World} {a b : Nat} {p : Pg} {w : World} {xs : List UInt8} (h : LSt w0 a b p w xs) : LSt w0 a b p w.drew xs :=
 h.over ((Below.refl _ _).drew)
theorem LSt.cells {w0 : World} {a b : Nat} {p : Pg} {w : World} {xs : List UInt8} (h : LSt w0 a b p w xs) : PCells w a p := Pg.pcells h.page
theorem lst_start (w : World) (p : Pg) (w1 : World) (hb : Below (w.alloc (.cells p.cells 47)).heap.size (w.alloc (.cells p.cells 47)) w1) :
  LSt w w.heap.size w1.heap.size p (w1.alloc (.cells #[.slice none 0 0, .pointer none, .int .i64 0] 169)) [] := by
 have h1 : w.heap.size < w1.heap.size := Nat.lt_of_lt_of_le (by simp) hb.size
 have hp : w1.heap[w.heap.size]? = some (.cells p.cells 47 (0, 0)) := by rw [hb.block _ (by simp)]; exact new_at w _ _
 exact ⟨.inr ⟨new_at _ _ _, rfl⟩, by rw [Below.heap_alloc _ _ _ h1]; exact hp, by omega, (thenBelow (below_new w _) hb).alloc (by omega) _, by omega⟩
theorem low_and (x : Nat) (h : x < 9223372036854775808) : bits .and .i64 (x : Int) 4294967295 = ((x % 4294967296 : Nat) : Int) := by
 have hm : (BitVec.ofInt 64 4294967295).toNat = 2 ^ 32 - 1 := by decide
 have key : (BitVec.ofInt 64 (x : Int) &&& BitVec.ofInt 64 4294967295).toNat = ((x : Int) % ((2 ^ 64 : Nat) : Int)).toNat % 2 ^ 32 := by
  rw [BitVec.toNat_and, BitVec.toNat_ofInt, hm, Nat.and_two_pow_sub_one_eq_mod]
 show IntKind.i64.wrap ((BitVec.ofInt 64 (x : Int) &&& BitVec.ofInt 64 4294967295).toNat : Nat) = _
 rw [key, IntKind.wrap_i64]
 omega
def seg1 (k : Nat) : List UInt8 := [] ++ low 1 k
def seg2 (k n : Nat) : List UInt8 := seg1 k ++ low 1 n
def seg3 (k n id : Nat) : List UInt8 := seg2 k n ++ low 2 id
def seg4 (k n id tx : Nat) : List UInt8 := seg3 k n id ++ low 4 (tx % 4294967296)
def seg5 (k n id tx : Nat) : List UInt8 := seg4 k n id tx ++ low 8 tx
def seg6 (k n id tx : Nat) (body : List UInt8) : List UInt8 := seg5 k n id tx ++ body
def seg7 (k n id tx : Nat) (body : List UInt8) : List UInt8 := seg6 k n id tx body ++ (zer (232 - n)).data.toList
theorem seg5_length (k n id tx : Nat) : (seg5 k n id tx).length = 16 := by
 simp only [seg5, seg4, seg3, seg2, seg1, List.length_append, low_length, List.length_nil]
theorem seg7_fore (k n id tx : Nat) (body : List UInt8) : seg7 k n id tx body = fore k n id tx body := by
 simp only [seg7, seg6, seg5, seg4, seg3, seg2, seg1, P5.fore, zer, str_list, low_mod4, List.nil_append, List.append_assoc]
theorem sector_ends (p : Pg) (h : p.ok) : sealOf (str p.fore) ++ (str p.fore).extract 4 8 = p.sector := by
 obtain ⟨A, M, hA, hM, e1, _⟩ := laid_parts p h
 have e2 : (str p.fore).extract 4 8 = str (low 4 p.tx.toNat) := by
  apply text_ext
  rw [Lib.extract_data, str_list, str_list, e1, List.drop_left' hA, List.take_left' (by rw [low_length])]
 rw [e2]
 apply text_ext
 rw [text_app, str_list, sealOf, text_app, str_list, tailOf, str_list, str_list, Pg.sector, str_list, Pg.laid, List.append_assoc]
theorem lay_ok (w : World) (p : Pg) (h : p.ok) :
  Calls Tryz.prog 85 #[p.v] w fun r w' => r = .returned (.tuple #[.string p.sector, .int .i64 0]) ∧ Below w.heap.size w w' := by
 have HV := fun w' => Lib.hid (valid_any w' p)
 rw [decide_eq_true h] at HV
 have hE := sector_ends p h
 have hS : (sealOf (str p.fore)).size = 252 := by rw [seal_size, str_size, p.fore_len h]
 have hF : (str p.fore).size = 248 := by rw [str_size, p.fore_len h]
 have HSe := fun w' => Lib.hid (seal_any w' (str p.fore) (by omega))
 have hst := lst_start w p
 obtain ⟨k, id, tx, body⟩ := p
 obtain ⟨h1, h2, h3, h4, h5, h6, h7⟩ := h
 simp only at h1 h2 h3 h4 h5 h6 h7
 obtain ⟨k, rfl⟩ := Int.eq_ofNat_of_zero_le (show 0 ≤ k by omega)
 obtain ⟨id, rfl⟩ := Int.eq_ofNat_of_zero_le h3
 obtain ⟨tx, rfl⟩ := Int.eq_ofNat_of_zero_le h5
 have hA := low_and tx (by omega)
 have hl5 := seg5_length k body.size id tx
 have hz := zer_size (232 - body.size)
 have ptr : ∀ b : Nat, Value = Value := fun _ => rfl
 have L1 := Lib.hid (show ∀ b W, LSt w w.heap.size b ⟨k, id, tx, body⟩ W [] → Calls Tryz.prog 119 #[.pointer (some ⟨b, 0, none⟩), .int .i64 k] W fun r w' => r = .returned (.pointer (some ⟨b, 0, none⟩)) ∧ LSt w w.heap.size b ⟨k, id, tx, body⟩ w' (seg1 k) from
  fun b W hW => (putByte_ok W b _ k (by omega) (by simp) hW.put).mono fun _ _ ⟨a, c, d⟩ => ⟨a, hW.step c d⟩)
 have L2 := Lib.hid (show ∀ b W, LSt w w.heap.size b ⟨k, id, tx, body⟩ W (seg1 k) → Calls Tryz.prog 119 #[.pointer (some ⟨b, 0, none⟩), .int .i64 body.size] W fun r w' => r = .returned (.pointer (some ⟨b, 0, none⟩)) ∧ LSt w w.heap.size b ⟨k, id, tx, body⟩ w' (seg2 k body.size) from
  fun b W hW => (putByte_ok W b _ body.size (by omega) (by simp [seg1, low_length]) hW.put).mono fun _ _ ⟨a, c, d⟩ => ⟨a, hW.step c d⟩)
 have L3 := Lib.hid (show ∀ b W, LSt w w.heap.size b ⟨k, id, tx, body⟩ W (seg2 k body.size) → Calls Tryz.prog 120 #[.pointer (some ⟨b, 0, none⟩), .int .i64 id] W fun r w' => r = .returned (.pointer (some ⟨b, 0, none⟩)) ∧ LSt w w.heap.size b ⟨k, id, tx, body⟩ w' (seg3 k body.size id) from
  fun b W hW => (putHalf_ok W b _ id (by omega) (by simp [seg2, seg1, low_length]) hW.put).mono fun _ _ ⟨a, c, d⟩ => ⟨a, hW.step c d⟩)
 have L4 := Lib.hid (show ∀ b W, LSt w w.heap.size b ⟨k, id, tx, body⟩ W (seg3 k body.size id) → Calls Tryz.prog 121 #[.pointer (some ⟨b, 0, none⟩), .int .i64 (bits .and .i64 (tx : Int) 4294967295)] W fun r w' => r = .returned (.pointer (some ⟨b, 0, none⟩)) ∧ LSt w w.heap.size b ⟨k, id, tx, body⟩ w' (seg4 k body.size id tx) from
  fun b W hW => by
   rw [hA]
   exact (putWord_ok W b _ (tx % 4294967296) (by omega) (by simp [seg3, seg2, seg1, low_length]) hW.put).mono fun _ _ ⟨a, c, d⟩ => ⟨a, hW.step c d⟩)
 have L5 := Lib.hid (show ∀ b W, LSt w w.heap.size b ⟨k, id, tx, body⟩ W (seg4 k body.size id tx) → Calls Tryz.prog 122 #[.pointer (some ⟨b, 0, none⟩), .int .i64 tx] W fun r w' => r = .returned (.pointer (some ⟨b, 0, none⟩)) ∧ LSt w w.heap.size b ⟨k, id, tx, body⟩ w' (seg5 k body.size id tx) from
  fun b W hW => (putInt_ok W b _ tx (by omega) (by simp [seg4, seg3, seg2, seg1, low_length]) hW.put).mono fun _ _ ⟨a, c, d⟩ => ⟨a, hW.step c d⟩)
 have L6 := Lib.hid (show ∀ b W, LSt w w.heap.size b ⟨k, id, tx, body⟩ W (seg5 k body.size id tx) → Calls Tryz.prog 123 #[.pointer (some ⟨b, 0, none⟩), .string body] W fun r w' => r = .returned (.pointer (some ⟨b, 0, none⟩)) ∧ LSt w w.heap.size b ⟨k, id, tx, body⟩ w' (seg6 k body.size id tx body.data.toList) from
  fun b W hW => (raw_ok W b _ body (by omega) hW.put).mono fun _ _ ⟨a, c, d⟩ => ⟨a, hW.step c d⟩)
 have L7 := Lib.hid (show ∀ b W xs, LSt w w.heap.size b ⟨k, id, tx, body⟩ W xs → Calls Tryz.prog 91 #[.string ⟨#[0]⟩, .int .i64 (IntKind.i64.wrap (232 - (body.size : Int)))] W fun r w' => r = .returned (.string (zer (232 - body.size))) ∧ LSt w w.heap.size b ⟨k, id, tx, body⟩ w' xs from
  fun b W xs hW => by
   rw [show IntKind.i64.wrap ((232 : Int) - (body.size : Int)) = ((232 - body.size : Nat) : Int) by rw [IntKind.wrap_i64]; omega]
   exact (repeat_zer W (232 - body.size) (by omega)).mono fun _ _ ⟨a, d⟩ => ⟨a, hW.over d⟩)
 have L8 := Lib.hid (show ∀ b W, LSt w w.heap.size b ⟨k, id, tx, body⟩ W (seg6 k body.size id tx body.data.toList) → Calls Tryz.prog 123 #[.pointer (some ⟨b, 0, none⟩), .string (zer (232 - body.size))] W fun r w' => r = .returned (.pointer (some ⟨b, 0, none⟩)) ∧ LSt w w.heap.size b ⟨k, id, tx, body⟩ w' (seg7 k body.size id tx body.data.toList) from
  fun b W hW => (raw_ok W b _ _ (by rw [seg6, List.length_append, text_len]; omega) hW.put).mono fun _ _ ⟨a, c, d⟩ => ⟨a, hW.step c d⟩)
 have eF : (⟨(seg7 k body.size id tx body.data.toList).toArray⟩ : ByteArray) = str (Pg.mk k id tx body).fore := by rw [seg7_fore]; rfl
 have L9 := Lib.hid (show ∀ b W, LSt w w.heap.size b ⟨k, id, tx, body⟩ W (seg7 k body.size id tx body.data.toList) → Calls Tryz.prog 124 #[.pointer (some ⟨b, 0, none⟩)] W fun r w' => r = .returned (.tuple #[.string (str (Pg.mk k id tx body).fore), .int .i64 0]) ∧ Below w.heap.size w w' from
  fun b W hW => by
   have H := putEnd_ok W b _ hW.put
   rw [eF] at H
   exact H.mono fun _ _ ⟨a, d⟩ => ⟨a, d ▸ hW.below⟩)
 have CE := Lib.hid (show ∀ b W xs, LSt w w.heap.size b ⟨k, id, tx, body⟩ W xs → PCells W w.heap.size ⟨k, id, tx, body⟩ from fun b W xs hW => hW.cells)
 generalize str (Pg.mk k id tx body).fore = F at HSe hE hS hF L9
 generalize sealOf F = G at HSe hE hS
 have HE := Lib.hid hE
 have HST := Lib.hid hst
 generalize (Pg.mk k id tx body).sector = R at hE HE
 clear eF h1 h2 h3 h4 h5 h6 hl5 hst hA hE ptr
 unfold PCells at CE
 unfold Pg.v at *
 generalize zer (232 - body.size) = Z at L7 L8 hz
 go_enter Tryz.func85, Tryz.ntmps85
 go_wp2_with (go_at_call 84; refine (HV _).out.mono ?_; rintro e w1 ⟨rfl, hb1⟩; have st0 := HST.out w1 hb1; have st0d := st0.drew; have q0 := CE.out _ _ _ st0; have q0d := CE.out _ _ _ st0d)
 go_region_held3 (fun w' => w'.cell? ⟨w.heap.size, 0, none⟩ = some (.int .i64 k) ∧ w'.cell? ⟨w.heap.size, 1, none⟩ = some (.int .i64 id) ∧ w'.cell? ⟨w.heap.size, 2, none⟩ = some (.int .i64 tx) ∧ w'.cell? ⟨w.heap.size, 3, none⟩ = some (.string body)) (first | exact q0 | exact q0d | exact CE.out _ _ _ (by assumption))
  ((first
   | (go_at_call 119; (with_reducible refine (L1.out _ _ (by assumption)).mono ?_); rintro e w2 ⟨rfl, st1⟩)
   | (go_at_call 119; (with_reducible refine (L2.out _ _ (by assumption)).mono ?_); rintro e w2 ⟨rfl, st1⟩)
   | (go_at_call 120; (with_reducible refine (L3.out _ _ (by assumption)).mono ?_); rintro e w2 ⟨rfl, st1⟩)
   | (go_at_call 121; (with_reducible refine (L4.out _ _ (by assumption)).mono ?_); rintro e w2 ⟨rfl, st1⟩)
   | (go_at_call 122; (with_reducible refine (L5.out _ _ (by assumption)).mono ?_); rintro e w2 ⟨rfl, st1⟩)))
 go_wp2
 go_region_held3 (fun w' => w'.cell? ⟨w.heap.size, 0, none⟩ = some (.int .i64 k) ∧ w'.cell? ⟨w.heap.size, 1, none⟩ = some (.int .i64 id) ∧ w'.cell? ⟨w.heap.size, 2, none⟩ = some (.int .i64 tx) ∧ w'.cell? ⟨w.heap.size, 3, none⟩ = some (.string body)) (first | exact CE.out _ _ _ (by assumption) | exact CE.out _ _ _ (LSt.drew (by assumption)))
  ((first
   | (go_at_call 123; (with_reducible refine (L6.out _ _ (by first | assumption | exact LSt.drew (by assumption))).mono ?_); rintro e w3 ⟨rfl, st2⟩)
   | (go_at_call 123; (with_reducible refine (L8.out _ _ (by first | assumption | exact LSt.drew (by assumption))).mono ?_); rintro e w3 ⟨rfl, st2⟩)
   | (go_at_call 91; (with_reducible refine (L7.out _ _ _ (by first | assumption | exact LSt.drew (by assumption))).mono ?_); rintro e w3 ⟨rfl, st2⟩)))
 all_goals
  go_wp2_with (go_at_call 124; (with_reducible refine (L9.out _ _ (by assumption)).mono ?_); rintro e w4 ⟨rfl, hb4⟩)
  go_region_held3 (fun _ => True) (trivial) (first | (go_at_call 125; (with_reducible refine (HSe _).out.mono ?_); rintro e w5 ⟨rfl, hb5⟩))
  go_wp2
  go_ret2
  rw [HE.out]
  exact ⟨rfl, thenBelow hb4 (((Below.refl _ _).drew).trans hb5)⟩
end Go.Proofs.YtbkngnjkaledlaaGreat.P5
