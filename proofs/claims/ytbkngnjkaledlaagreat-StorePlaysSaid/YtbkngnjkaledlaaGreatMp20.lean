/-
  Texts of the proof of SaidPlay8b.
-/
import Derived.Test.YtbkngnjkaledlaaGreatMp19
set_option maxHeartbeats 8000000
set_option maxRecDepth 100000
namespace Go.Proofs.YtbkngnjkaledlaaGreat.P4
open Go Go.RowKit Go.Lib P3
section
variable {lo : Nat} {w w' w'' : World} {r : Nat} {D E C : RM}
inductive WrR (lo : Nat) (w : World) (r : Nat) (D : RM) (s : ByteArray) (i : Int) (d : ByteArray) (t : Nat) (ks : List Int) (e : Ending) (w' : World) : Prop
 | err (h : errW D s i d.size ≠ 0) (he : e = .returned (.int .i64 (errW D s i d.size))) (hb : Below w.heap.size w w')
 | done (h : errW D s i d.size = 0) (hfa : D.fallsB = false) (he : e = .returned (.int .i64 0)) (n k : Nat) (f : MF) (C : RM) (u v : Value) (hi : i = n) (ho : Opened D s k f C) (hf : C.fs[k]? = some f) (hn : n ≤ f.now.length) (hn2 : n ≤ 4000) (hs : RStep lo w r D w' (C.wrote k f t n d u v))
 | falls (h : errW D s i d.size = 0) (hfa : D.fallsB = true) (he : e = .returned (.int .i64 14)) (n k : Nat) (f : MF) (C : RM) (u v : Value) (hi : i = n) (ho : Opened D s k f C) (hf : C.fs[k]? = some f) (hn : n ≤ f.now.length) (hn2 : n ≤ 4000) (w1 : World) (hs : RStep lo w r D w1 (C.wrote k f t n d u v)) (z : Ending) (hc : CrashP lo w1 r (C.wrote k f t n d u v) ks z w')
theorem RAt.write_err1 (h : RAt lo w r D) (s : ByteArray) (i : Int) (d : ByteArray) (hd : d.size ≤ maxLen) (he : D.off = true ∨ nameOk s = false ∨ d.size ≠ 256) :
  Calls Tryz.prog 37 #[.pointer (some ⟨r, 0, none⟩), .string s, .int .i64 i, .string d] w fun e w' => e = .returned (.int .i64 (errW D s i d.size)) ∧ w = w' := by
 have c2 : w.cell? ⟨r, 2, none⟩ = some (.bool D.off) := h.cell 2
 have HNm := Lib.hid (fun W => rdName_any W s)
 have hmx : maxLen = 9223372036854775807 := by decide
 cases ho : D.off with
 | true =>
  have e1 : errW D s i d.size = 14 := if_pos ho
  rw [e1]
  rw [ho] at c2
  clear h ho e1 he
  go_enter Tryz.func37, Tryz.ntmps37
  go_wp2
  go_ret
  exact ⟨rfl, rfl⟩
 | false =>
  rw [ho] at c2
  cases hnm : nameOk s with
  | false =>
   have e1 : errW D s i d.size = 1 := by unfold errW; rw [if_neg (by simp [ho]), if_pos (.inl hnm)]
   rw [e1]
   rw [hnm] at HNm
   clear h ho e1 hnm he
   go_enter Tryz.func37, Tryz.ntmps37
   go_wp2_with (go_at_call 45; (with_reducible refine (HNm.out _).mono ?_); rintro e w' ⟨rfl, rfl⟩)
   go_ret
   exact ⟨rfl, rfl⟩
  | true =>
   have hd2 : d.size ≠ 256 := by
    rcases he with he | he | he
    ·rw [ho] at he; cases he
    ·rw [hnm] at he; cases he
    ·exact he
   have e1 : errW D s i d.size = 1 := by unfold errW; rw [if_neg (by simp [ho]), if_pos (.inr hd2)]
   have k1 : ((d.size : Int) != 256) = true := by rw [bne_iff_ne]; omega
   rw [e1]
   rw [hnm] at HNm
   clear h ho e1 hnm he
   go_enter Tryz.func37, Tryz.ntmps37
   go_wp2_with (go_at_call 45; (with_reducible refine (HNm.out _).mono ?_); rintro e w' ⟨rfl, rfl⟩)
   go_ret
   exact ⟨rfl, rfl⟩
theorem RAt.write_main (h : RAt lo w r D) (s : ByteArray) (i : Int) (d : ByteArray) (t : Nat) (ks : List Int) (ho : D.off = false) (hnm : nameOk s = true) (hd : d.size = 256) (h0 : D.armed = true → 0 ≤ D.n) (h1 : D.n ≤ 9223372036854775807) (hl : D.ws.length < 9000) (hids : D.ids < 1000000)
  (hfs : ∀ f ∈ D.fs, f.id ≤ 1000000 ∧ ∀ s ∈ f.safe, s.size = 256) (hw : ∀ x ∈ D.ws, x.pos ≤ 4000 ∧ x.data.size = 256 ∧ x.file ≤ 1000000) (hv : IntsR (D.own r) w D.kv ks) :
  Calls Tryz.prog 37 #[.pointer (some ⟨r, 0, none⟩), .string s, .int .i64 i, .string d] w (WrR lo w r D s i d t ks) := by
 have c2 : w.cell? ⟨r, 2, none⟩ = some (.bool false) := by rw [← ho]; exact h.cell 2
 have c3 : w.cell? ⟨r, 3, none⟩ = some (.int .i64 D.room) := h.cell 3
 obtain ⟨⟨fa, fc, hlv⟩, ⟨wa, wc, hwv⟩⟩ := h.sh
 have c0 : w.cell? ⟨r, 0, none⟩ = some (.slice fa D.fs.length fc) := by rw [← hlv]; exact h.cell 0
 have hfew := h.few
 have HNm := Lib.hid (fun W => rdName_any W s)
 rw [hnm] at HNm
 have k1 : ((d.size : Int) != 256) = false := by rw [hd]; rfl
 obtain ⟨z, hz⟩ : ∃ z, z = atI (atN D.fs s) := ⟨_, rfl⟩
 have HAt : Hid (∀ W, RAt lo W r D → Calls Tryz.prog 46 #[.pointer (some ⟨r, 0, none⟩), .string s] W fun e w' => e = .returned (.int .i64 z) ∧ W = w') := fun W hW => by rw [hz]; exact hW.at_ s
 have HR := Lib.hid h
 have HU : Hid (∀ W, RAt lo W r D → Calls Tryz.prog 77 #[.pointer (some ⟨r, 0, none⟩)] W fun e w' => e = .returned (.int .i64 (usedM D.fs)) ∧ W = w') := fun W hW => hW.used
 have HU2 : Hid (∀ W, RAt lo W r D → Calls Tryz.prog 77 #[.pointer (some ⟨r, 0, none⟩)] W fun e w' => e = .returned (.int .i64 (usedM D.fs)) ∧ w' = W) := fun W hW => (HU.out W hW).mono fun e w' ⟨a, b⟩ => ⟨a, b.symm⟩
 have herr : errW D s i d.size = if i < 0 ∨ (sizeM D s : Int) < i ∨ 4000 < i then 15 else if fullM D s i.toNat = true then 20 else 0 := by unfold errW; rw [if_neg (by simp [ho]), if_neg (by simp [hnm, hd])]
 have HErr := Lib.hid herr
 have HZ := Lib.hid hz
 have HD := Lib.hid hd
 have HOff := Lib.hid ho
 obtain ⟨i1, hi1, hy0', hy1, hy2⟩ := info_parts infoStr9
 obtain ⟨i3, hi3, hz30, hz31, hz32⟩ := info_parts infoRW
 obtain ⟨z3, hz3⟩ : ∃ z, z = Value.agg #[.int .i64 0, .int .i64 0, .string ⟨#[]⟩] := ⟨_, rfl⟩
 rw [← hz3] at hz30
 have HZ3 : Hid (z3.cells.size = 3) := by rw [hz3]; exact rfl
 clear hz3
 have HLV := Lib.hid hlv
 obtain ⟨i2, hi2, hz20, hz21, hz22⟩ := info_parts infoRF
 obtain ⟨z2, hz2⟩ : ∃ z, z = Value.agg #[.string ⟨#[]⟩, .int .i64 0, .slice none 0 0, .slice none 0 0, .bool false, .bool false] := ⟨_, rfl⟩
 rw [← hz2] at hz20
 have HZ2 : Hid (z2.cells.size = 6) := by rw [hz2]; exact rfl
 clear hz2
 obtain ⟨n0, hn0⟩ : ∃ n0, n0 = sizeM D s := ⟨_, rfl⟩
 have HN0 := Lib.hid hn0
 -- the row of files
 have HF : Hid (∀ k f, D.fs[k]? = some f → ∃ g a c, fa = some ⟨g, 0, none⟩ ∧ w.cell? ⟨g, k * 6 + 2, none⟩ = some (.slice a f.now.length c)) := fun k f hf => by
  obtain ⟨a, c, e1, e2, e3⟩ := h.files
  rw [hlv] at e1
  obtain ⟨rfl, rfl⟩ : fa = a ∧ fc = c := by simpa using e1
  obtain ⟨g, q1, _, q2⟩ := e3 k f hf
  obtain ⟨a2, c2, t2, _⟩ := (h.txt f (List.mem_of_getElem? hf)).1.shape
  exact ⟨g, a2, c2, q1, by rw [← t2]; exact q2 2 _ rfl⟩
 obtain ⟨n, hn⟩ : ∃ n, n = D.fs.length := ⟨_, rfl⟩
 have HN := Lib.hid hn
 rw [← hn] at c0 hfew
 have HK : Hid (∀ k, atN D.fs s = some k → k < n ∧ z = k ∧ ∃ f, D.fs[k]? = some f ∧ n0 = f.now.length) := fun k hk => by
  obtain ⟨f, hf, _⟩ := atN_some hk
  exact ⟨by rw [hn]; exact (List.getElem?_eq_some_iff.1 hf).1, by rw [hz, hk]; rfl, f, hf, by rw [hn0]; exact sizeM_some hk hf⟩
 clear h herr hz hn0 hlv hwv hn ho hnm hd
 go_enter Tryz.func37, Tryz.ntmps37
 go_upto_if 32 with (first
  | (go_at_call 45; (with_reducible refine (HNm.out _).mono ?_); rintro e w' ⟨rfl, rfl⟩)
  | (go_at_call 46; (with_reducible refine (HAt.out _ HR.out).mono ?_); rintro e w' ⟨rfl, rfl⟩))
 go_cut [10] from 14 (fun v W => v = .int .i64 (n0 : Nat) ∧ W = w)
 case first =>
  cases hat : atN D.fs s with
  | none =>
   have ez : z = -1 := by rw [HZ.out, hat]; rfl
   have en : n0 = 0 := by rw [HN0.out]; exact sizeM_none hat
   subst ez
   have HEn := Lib.hid en
   clear hat en
   go_wp2
   go_meet
   exact ⟨by rw [HEn.out]; rfl, rfl⟩
  | some k =>
   obtain ⟨hk, rfl, f, hf, en⟩ := HK.out k hat
   obtain ⟨g, a2, c2', rfl, e2⟩ := HF.out k f hf
   have j0 : (0 : Int) ≤ (k : Int) := by omega
   have j1 : (k : Int) < (n : Int) := by omega
   have HEn := Lib.hid en
   clear hat en
   generalize f.now.length = m at *
   clear hf
   go_wp2
   go_meet
   exact ⟨by rw [HEn.out], rfl⟩
 case rest =>
  obtain ⟨e8, e9⟩ := hcut
  subst e8
  obtain rfl : w = wc := e9.symm
  clear e9
  have HE15 : Hid (i < 0 ∨ (n0 : Int) < i ∨ 4000 < i → WrR lo w r D s i d t ks (.returned (.int .i64 15)) w) := fun hr => by
   have e1 := HErr.out
   rw [← HN0.out, if_pos hr] at e1
   exact .err (by rw [e1]; decide) (by rw [e1]) (Below.refl _ _)
  by_cases hr0 : i < 0
  ·have HQ := Lib.hid (HE15.out (.inl hr0))
   go_wp2
   go_ret
   exact HQ.out
  ·by_cases hr1 : (n0 : Int) < i
   ·have HQ := Lib.hid (HE15.out (.inr (.inl hr1)))
    go_wp2
    go_ret
    exact HQ.out
   ·by_cases hr2 : 4000 < i
    ·have HQ := Lib.hid (HE15.out (.inr (.inr hr2)))
     go_wp2
     go_ret
     exact HQ.out
    ·obtain ⟨q, rfl⟩ : ∃ q : Nat, i = q := ⟨i.toNat, by omega⟩
     have hq1 : q ≤ n0 := by omega
     have hq2 : q ≤ 4000 := by omega
     have herr : errW D s q d.size = if fullM D s q = true then 20 else 0 := by
      rw [HErr.out, ← HN0.out, if_neg (by omega)]
      rfl
     have HErr2 := Lib.hid herr
     clear herr HE15 hr0 hr1 hr2
     have HFull : Hid (fullM D s q = ((decide (q = n0) && decide (0 < D.room) && decide (D.room ≤ (usedM D.fs : Int))) || (decide (z < 0) && decide (60 ≤ n)))) := by
      have e9 : (atN D.fs s).isNone = decide (z < 0) := by
       rw [HZ.out]
       cases atN D.fs s with
       | none => rfl
       | some k => exact (decide_eq_false (by show ¬ ((k : Int) < 0); omega)).symm
      unfold fullM
      rw [← HN0.out, ← HN.out, e9]
      exact rfl
     have HRd : Hid (∀ nq, RAt lo (w.drewN nq) r D) := fun nq => HR.out.below (below_drewN w nq)
     have b1 : decide ((q : Int) < 0) = false := decide_eq_false (by omega)
     have b2 : decide ((n0 : Int) < (q : Int)) = false := decide_eq_false (by omega)
     have b2' : decide (n0 < q) = false := decide_eq_false (by omega)
     have b3 : decide ((4000 : Int) < (q : Int)) = false := decide_eq_false (by omega)
     have b3' : decide (4000 < q) = false := decide_eq_false (by omega)
     go_upto_region 11 with fail
     go_cut [2, 83] from 14 (fun v2 v W => v2 = .int .i64 q ∧ v = .bool (fullM D s q) ∧ Hid (Below w.heap.size w W))
     case first =>
      -- FULL
      by_cases hA : q = n0
      ·have a1 : ((q : Int) == (n0 : Int)) = true := by rw [beq_iff_eq]; omega
       have a2 : decide (q = n0) = true := decide_eq_true hA
       have HAq := Lib.hid hA
       clear hA
       by_cases hB : 0 < D.room
       ·have r1 : decide (0 < D.room) = true := decide_eq_true hB
        by_cases hC : D.room ≤ (usedM D.fs : Int)
        ·have s1 : decide (D.room ≤ (usedM D.fs : Int)) = true := decide_eq_true hC
         go_quiet ((first | (go_at_call 77; exact Calls.quiet_of_same (HU2.out _ (HRd.out _)))))
         go_wp2
         go_meet
         exact ⟨by first | rfl | rw [HAq.out], by rw [HFull.out]; simp [*], below_drewN _ _⟩
        ·have s1 : decide (D.room ≤ (usedM D.fs : Int)) = false := decide_eq_false hC
         by_cases hz : z < 0
         ·have z1 : decide (z < 0) = true := decide_eq_true hz
          by_cases hn60 : 60 ≤ n
          ·have z2 : decide ((60 : Int) ≤ (n : Int)) = true := decide_eq_true (by omega)
           have z3 : decide (60 ≤ n) = true := decide_eq_true hn60
           go_quiet ((first | (go_at_call 77; exact Calls.quiet_of_same (HU2.out _ (HRd.out _)))))
           go_wp2
           go_meet
           exact ⟨by first | rfl | rw [HAq.out], by rw [HFull.out]; simp [*], below_drewN _ _⟩
          ·have z2 : decide ((60 : Int) ≤ (n : Int)) = false := decide_eq_false (by omega)
           have z3 : decide (60 ≤ n) = false := decide_eq_false hn60
           go_quiet ((first | (go_at_call 77; exact Calls.quiet_of_same (HU2.out _ (HRd.out _)))))
           go_wp2
           go_meet
           exact ⟨by first | rfl | rw [HAq.out], by rw [HFull.out]; simp [*], below_drewN _ _⟩
         ·have z1 : decide (z < 0) = false := decide_eq_false hz
          go_quiet ((first | (go_at_call 77; exact Calls.quiet_of_same (HU2.out _ (HRd.out _)))))
          go_wp2
          go_meet
          exact ⟨by first | rfl | rw [HAq.out], by rw [HFull.out]; simp [*], below_drewN _ _⟩
       ·have r1 : decide (0 < D.room) = false := decide_eq_false hB
        by_cases hz : z < 0
        ·have z1 : decide (z < 0) = true := decide_eq_true hz
         by_cases hn60 : 60 ≤ n
         ·have z2 : decide ((60 : Int) ≤ (n : Int)) = true := decide_eq_true (by omega)
          have z3 : decide (60 ≤ n) = true := decide_eq_true hn60
          go_quiet ((first | (go_at_call 77; exact Calls.quiet_of_same (HU2.out _ (HRd.out _)))))
          go_wp2
          go_meet
          exact ⟨by first | rfl | rw [HAq.out], by rw [HFull.out]; simp [*], below_drewN _ _⟩
         ·have z2 : decide ((60 : Int) ≤ (n : Int)) = false := decide_eq_false (by omega)
          have z3 : decide (60 ≤ n) = false := decide_eq_false hn60
          go_quiet ((first | (go_at_call 77; exact Calls.quiet_of_same (HU2.out _ (HRd.out _)))))
          go_wp2
          go_meet
          exact ⟨by first | rfl | rw [HAq.out], by rw [HFull.out]; simp [*], below_drewN _ _⟩
        ·have z1 : decide (z < 0) = false := decide_eq_false hz
         go_quiet ((first | (go_at_call 77; exact Calls.quiet_of_same (HU2.out _ (HRd.out _)))))
         go_wp2
         go_meet
         exact ⟨by first | rfl | rw [HAq.out], by rw [HFull.out]; simp [*], below_drewN _ _⟩
      ·have a1 : ((q : Int) == (n0 : Int)) = false := by rw [beq_eq_false_iff_ne]; omega
       have a2 : decide (q = n0) = false := decide_eq_false hA
       by_cases hz : z < 0
       ·have z1 : decide (z < 0) = true := decide_eq_true hz
        by_cases hn60 : 60 ≤ n
        ·have z2 : decide ((60 : Int) ≤ (n : Int)) = true := decide_eq_true (by omega)
         have z3 : decide (60 ≤ n) = true := decide_eq_true hn60
         go_quiet ((first | (go_at_call 77; exact Calls.quiet_of_same (HU2.out _ (HRd.out _)))))
         go_wp2
         go_meet
         exact ⟨by first | rfl | rw [HAq.out], by rw [HFull.out]; simp [*], below_drewN _ _⟩
        ·have z2 : decide ((60 : Int) ≤ (n : Int)) = false := decide_eq_false (by omega)
         have z3 : decide (60 ≤ n) = false := decide_eq_false hn60
         go_quiet ((first | (go_at_call 77; exact Calls.quiet_of_same (HU2.out _ (HRd.out _)))))
         go_wp2
         go_meet
         exact ⟨by first | rfl | rw [HAq.out], by rw [HFull.out]; simp [*], below_drewN _ _⟩
       ·have z1 : decide (z < 0) = false := decide_eq_false hz
        go_quiet ((first | (go_at_call 77; exact Calls.quiet_of_same (HU2.out _ (HRd.out _)))))
        go_wp2
        go_meet
        exact ⟨by first | rfl | rw [HAq.out], by rw [HFull.out]; simp [*], below_drewN _ _⟩
      -- /FULL
     case rest =>
      obtain ⟨rfl, rfl, HB⟩ := hcut
      cases hfu : fullM D s q with
      | true =>
       have HQ : Hid (∀ W, Below w.heap.size w W → WrR lo w r D s q d t ks (.returned (.int .i64 20)) W) := fun W hb => by
        have e1 := HErr2.out
        rw [if_pos hfu] at e1
        exact .err (by rw [e1]; decide) (by rw [e1]) hb
       clear hfu
       go_wp2
       go_ret
       exact HQ.out _ HB.out
      | false =>
       have e0 : errW D s q d.size = 0 := by rw [HErr2.out, if_neg (by rw [hfu]; decide)]
       have HE0 := Lib.hid e0
       have HFu := Lib.hid hfu
       have HRw := Lib.hid (HR.out.below HB.out)
       have HFa := Lib.hid (HRw.out.falls h0 h1)
       obtain ⟨b, hb⟩ : ∃ b, b = D.fallsB := ⟨_, rfl⟩
       rw [← hb] at HFa
       have HBb := Lib.hid hb
       clear e0 hfu hb
       go_upto_if 87 with (go_at_call 47; (with_reducible refine HFa.out.mono ?_); rintro e w1 ⟨rfl, hw1, ho1⟩; have HW1 := Lib.hid hw1; have HS1 : Hid (RStep lo w r D w1 D.count) := (RStep.below HR.out HB.out).trans (RStep.count HRw.out hw1 ho1); clear hw1 ho1)
       go_cut [9] from 14 (fun vk W => ∃ k f C, vk = .int .i64 (k : Nat) ∧ Hid (Opened D s k f C) ∧ Hid (C.fs[k]? = some f) ∧ Hid (f.now.length = n0) ∧ Hid (RStep lo w r D W C))
       case first =>
        obtain ⟨q1, q2, q3, q4, q5⟩ := count_fs D
        cases hat : atN D.fs s with
        | some k =>
         obtain ⟨hk, rfl, f, hf, en⟩ := HK.out k hat
         have z0 : decide ((k : Int) < 0) = false := decide_eq_false (by omega)
         have HQ : Hid (Opened D s k f D.count) := .inl ⟨hat, hf, rfl⟩
         have HQ2 : Hid (D.count.fs[k]? = some f) := by rw [q1]; exact hf
         have HQ3 : Hid (f.now.length = n0) := en.symm
         clear hat hf en q1 q2 q3 q4 q5
         go_wp2
         go_meet
         exact ⟨k, f, _, rfl, HQ, HQ2, HQ3, HS1⟩
        | none =>
         have ez : z = -1 := by rw [HZ.out, hat]; rfl
         have en : n0 = 0 := by rw [HN0.out]; exact sizeM_none hat
         subst ez
         have hn60 : n < 60 := by
          refine Nat.lt_of_not_le fun hle => ?_
          have h9 := HFu.out
          unfold fullM at h9
          rw [hat, ← HN.out] at h9
          simp [hle] at h9
         obtain ⟨p1, p2, p3, p4⟩ := count_more D
         have k0 : w1.cell? ⟨r, 0, none⟩ = some (.slice fa n fc) := by rw [HN.out, ← HLV.out, ← q4]; exact HW1.out.cell 0
         have k7 : w1.cell? ⟨r, 7, none⟩ = some (.int .i64 D.ids) := by rw [← p1]; exact HW1.out.cell 7
         have f7 := HW1.out.free 7
         have f0 := HW1.out.free 0
         have hrb : (Value.slice fa n fc).ownBlock ≠ some r := by
          have h9 := HW1.out.apart.1
          rw [q4, HLV.out, ← HN.out] at h9
          exact h9
         have hrs := (HW1.out.own_lt (.inl rfl : D.count.own r r)).2
         have hown1 : (w1.setCell ⟨r, 7, none⟩ (.int .i64 ((D.ids : Int) + 1))).ownsRow lo 101 6 (.slice fa n fc) n (D.fs.flatMap MF.cells) := by
          have h9 := HW1.out.lrow
          rw [q4, q1, HLV.out, ← HN.out] at h9
          exact owned_fr h9 fun b hb => Below.heap_setCell _ _ _ _ (fun e => hrb (by have e' : b = r := e; rw [← e']; exact hb))
         have HOwn : Hid (∀ W, Below (w1.setCell ⟨r, 7, none⟩ (.int .i64 ((D.ids : Int) + 1))).heap.size (w1.setCell ⟨r, 7, none⟩ (.int .i64 ((D.ids : Int) + 1))) W → W.ownsRow lo 101 6 (.slice fa n fc) n (D.fs.flatMap MF.cells)) := fun W hW => own_keep hown1 hW
         have HFrs : Hid (∀ W W2 u, Below (w1.setCell ⟨r, 7, none⟩ (.int .i64 ((D.ids : Int) + 1))).heap.size (w1.setCell ⟨r, 7, none⟩ (.int .i64 ((D.ids : Int) + 1))) W → W2.ownsRow lo 101 6 u (n + 1) (D.fs.flatMap MF.cells ++ [.string s, .int .i64 ((D.ids : Int) + 1), .slice none 0 0, .slice none 0 0, .bool false, .bool false]) → W.grownBy W2 (Value.slice fa n fc).ownBlock →
           (u.ownBlock = (Value.slice fa n fc).ownBlock ∨ u.ownBlock = some W.heap.size) → W2.cell? ⟨r, 0, none⟩ = some (.slice fa n fc) ∧ W2.frozen? ⟨r, 0, none⟩ = false ∧ Hid (RStep lo w r D (W2.setCell ⟨r, 0, none⟩ u) (D.count.fresh s u))) := fun W W2 u hW ho hg hat9 => by
          have h9 := HW1.out.freshStep s (W := W) (W2 := W2) (u := u) (by rw [q1, ← HN.out]; exact hn60) (by rw [p1]; exact hW) (by rw [q1, p1, ← HN.out]; exact ho) (by rw [q4, HLV.out, ← HN.out]; exact hg) (by rw [q4, HLV.out, ← HN.out]; exact hat9)
          have hblk : W2.heap[r]? = W.heap[r]? := hg.block r (Nat.lt_of_lt_of_le hrs (by have := hW.size; simpa [World.setCell] using this)) (fun e => hrb e.symm)
          have hblk2 : W.heap[r]? = (w1.setCell ⟨r, 7, none⟩ (.int .i64 ((D.ids : Int) + 1))).heap[r]? := hW.block r (by simpa [World.setCell] using hrs)
          refine ⟨?_, ?_, HS1.out.trans h9⟩
          ·rw [(heap_ext (hblk.trans hblk2) 0).1]
           have h8 := set_at HW1.out.blk 7 (.int .i64 ((D.ids : Int) + 1))
           rw [cell_at h8]
           simp [RM.cells, q4, HLV.out, HN.out]
          ·rw [(heap_ext (hblk.trans hblk2) 0).2]
           exact free_at (set_at HW1.out.blk 7 (.int .i64 ((D.ids : Int) + 1))) 0
         have HL6 : Hid ((D.fs.flatMap MF.cells).length = n * 6) := by rw [HN.out]; exact flat_length MF.six D.fs
         have hszx : (w1.setCell ⟨r, 7, none⟩ (.int .i64 ((D.ids : Int) + 1))).heap.size = w1.heap.size := by simp [World.setCell]
         have kA : ((w1.setCell ⟨r, 7, none⟩ (.int .i64 ((D.ids : Int) + 1))).alloc (.cells #[.string s, .int .i64 ((D.ids : Int) + 1), .slice none 0 0, .slice none 0 0, .bool false, .bool false] 101)).cell? ⟨r, 0, none⟩ = some (.slice fa n fc) := by
          rw [(heap_ext ((below_new _ _).block r (by rw [hszx]; exact hrs)) 0).1, cell_at (set_at HW1.out.blk 7 (.int .i64 ((D.ids : Int) + 1)))]
          simp [RM.cells, q4, HLV.out, HN.out]
         have HBx : Hid (Below (w1.setCell ⟨r, 7, none⟩ (.int .i64 ((D.ids : Int) + 1))).heap.size (w1.setCell ⟨r, 7, none⟩ (.int .i64 ((D.ids : Int) + 1))) (((w1.setCell ⟨r, 7, none⟩ (.int .i64 ((D.ids : Int) + 1))).alloc (.cells #[.string s, .int .i64 ((D.ids : Int) + 1), .slice none 0 0, .slice none 0 0, .bool false, .bool false] 101)).drew)) := (below_new _ _).drew
         have HNw : Hid (∀ A, some (⟨w1.heap.size, 0, none⟩ : Addr) = some A → ∀ (j : Nat) (u : Value), [.string s, .int .i64 ((D.ids : Int) + 1), .slice none 0 0, .slice none 0 0, .bool false, .bool false][j]? = some u → (((w1.setCell ⟨r, 7, none⟩ (.int .i64 ((D.ids : Int) + 1))).alloc (.cells #[.string s, .int .i64 ((D.ids : Int) + 1), .slice none 0 0, .slice none 0 0, .bool false, .bool false] 101)).drew).cell? (A.add j) = some u) := fun A hA j u hu => by
          cases hA
          rw [← hszx]
          exact cells6_new _ _ _ _ _ _ _ _ j u hu
         have HOx : Hid ((((w1.setCell ⟨r, 7, none⟩ (.int .i64 ((D.ids : Int) + 1))).alloc (.cells #[.string s, .int .i64 ((D.ids : Int) + 1), .slice none 0 0, .slice none 0 0, .bool false, .bool false] 101)).drew).ownsRow lo 101 6 (.slice fa n fc) n (D.fs.flatMap MF.cells)) := HOwn.out _ HBx.out
         have HLx : Hid (lo ≤ (((w1.setCell ⟨r, 7, none⟩ (.int .i64 ((D.ids : Int) + 1))).alloc (.cells #[.string s, .int .i64 ((D.ids : Int) + 1), .slice none 0 0, .slice none 0 0, .bool false, .bool false] 101)).drew).heap.size) := by
          have h8 := HW1.out.lo_
          have h9 := HBx.out.size
          exact Nat.le_trans h8 (Nat.le_trans (Nat.le_of_lt hrs) (by omega))
         have hidn := hids
         have HQ : Hid (∀ u, Opened D s n ⟨s, D.ids + 1, [], [], false, .slice none 0 0, .slice none 0 0⟩ (D.count.fresh s u)) := fun u => .inr ⟨hat, HN.out, by rw [← HN.out]; exact hn60, u, rfl, rfl⟩
         have HQ2 : Hid (∀ u, (D.count.fresh s u).fs[n]? = some ⟨s, D.ids + 1, [], [], false, .slice none 0 0, .slice none 0 0⟩) := fun u => by
          show (D.count.fs ++ [_])[n]? = _
          rw [q1, p1, HN.out, List.getElem?_append_right (Nat.le_refl _), Nat.sub_self]
          rfl
         have HEn := Lib.hid en
         clear hat en q1 q2 q3 q4 q5 p1 p2 p3 p4 hown1 hrb hrs
         go_upto_region 16 with fail
         go_region_law (first
          | (refine step_app rfl (.tmp 99) (.tmp 106) 27 rfl lo 101 i2 z2 6 80 Tryz.underlying27 hi2 hz20 hz21 hz22 HZ2.out (by decide) (.slice fa n fc) n (D.fs.flatMap MF.cells) (by simp [Act.eval, Act.put]) HOx.out (some ⟨w1.heap.size, 0, none⟩) 1 1 [.string s, .int .i64 ((D.ids : Int) + 1), .slice none 0 0, .slice none 0 0, .bool false, .bool false] (by simp [Act.eval, Act.put]) rfl HNw.out (by intro q; cases q) (by intro u hu; simp at hu; rcases hu with rfl | rfl | rfl | rfl <;> rfl) (by unfold maxLen; omega) (by omega) HLx.out ?_; intro p9 s9 w9 hown9 hgrow9 hat9; obtain ⟨y0, y1, HY⟩ := HFrs.out _ _ _ HBx.out hown9 hgrow9 hat9; clear hown9 hgrow9 hat9))
         all_goals
          go_wp2
          go_meet
          exact ⟨n, _, _, by first | rfl | go_num, HQ.out _, HQ2.out _, by rw [HEn.out]; exact rfl, HY⟩
       case rest =>
        obtain ⟨k, f, C, e9, HOp, HCf, HCn, HS⟩ := hcut
        subst e9
        obtain ⟨o1, o2, o3, o4, o5, o6⟩ := HOp.out.facts
        have hRC := HS.out.at'
        obtain ⟨ga, gc, hv1, hv2, hv3⟩ := hRC.files
        obtain ⟨g, rfl, hg, hcc⟩ := hv3 k f HCf.out
        have hnow := (hRC.txt f (List.mem_of_getElem? HCf.out)).1
        obtain ⟨a2, c2', t2, t3, t4, t5⟩ := hnow.shape
        have hm4 := (hRC.long f (List.mem_of_getElem? HCf.out)).1
        have hkC := (List.getElem?_eq_some_iff.1 HCf.out).1
        have hCf := hRC.few
        have m0 : wc.cell? ⟨r, 0, none⟩ = some (.slice (some ⟨g, 0, none⟩) C.fs.length gc) := by rw [← hv1]; exact hRC.cell 0
        have m2 : wc.cell? ⟨g, k * 6 + 2, none⟩ = some (.slice a2 f.now.length c2') := by rw [← t2]; exact hcc 2 _ rfl
        have hN9 : Hid (∀ A, a2 = some A → ∀ m u, (f.now.map Value.string)[m]? = some u → wc.cell? (A.add m) = some u) := fun A hA m u hu => by
         rw [List.getElem?_map] at hu
         obtain ⟨x, hx, rfl⟩ := Option.map_eq_some_iff.1 hu
         obtain ⟨b9, hb9, hc9⟩ := t5 m x hx
         rw [hA] at hb9
         cases hb9
         rw [Go.WideShapes.add_plain, Nat.zero_add]
         exact hc9
        have hN8 : Hid (a2 = none → f.now.length = 0 ∧ c2' = 0) := fun hn => by
         rcases hnow with ⟨e1, e2⟩ | ⟨b9, c9, cur, e1, _⟩
         ·rw [e1] at t2
          rw [e2]
          simp only [Value.slice.injEq] at t2
          exact ⟨rfl, t2.2.2.symm⟩
         ·rw [e1, hn] at t2
          simp at t2
        -- behind the sector's store: what the last lines do
        have HWr : Hid (∀ W (u : Value), Below wc.heap.size wc W → W.ownsRow wc.heap.size 9 1 u (putAt f.now q d).length ((putAt f.now q d).map Value.string) → ∃ wv1 wv3, (W.setCell ⟨g, k * 6 + 2, none⟩ u).cell? ⟨r, 1, none⟩ = some (.slice wv1 D.ws.length wv3) ∧ (W.setCell ⟨g, k * 6 + 2, none⟩ u).cell? ⟨g, k * 6 + 1, none⟩ = some (.int .i64 f.id) ∧
          Hid (∀ W2, Below (W.setCell ⟨g, k * 6 + 2, none⟩ u).heap.size (W.setCell ⟨g, k * 6 + 2, none⟩ u) W2 → W2.ownsRow lo 129 3 (.slice wv1 D.ws.length wv3) D.ws.length (D.ws.flatMap RW.cells) ∧ lo ≤ W2.heap.size ∧ ∀ W3 v, W3.ownsRow lo 129 3 v (D.ws.length + 1) (D.ws.flatMap RW.cells ++ [.int .i64 f.id, .int .i64 q, .string d]) → W2.grownBy W3 (Value.slice wv1 D.ws.length wv3).ownBlock →
           (v.ownBlock = (Value.slice wv1 D.ws.length wv3).ownBlock ∨ v.ownBlock = some W2.heap.size) → W3.cell? ⟨r, 1, none⟩ = some (.slice wv1 D.ws.length wv3) ∧ W3.frozen? ⟨r, 1, none⟩ = false ∧ Hid (RStep lo w r D (W3.setCell ⟨r, 1, none⟩ v) (C.wrote k f t q d u v)))) := fun W u hW hu => by
         have h2 := hRC.below hW
         obtain ⟨wv1, wv3, e1, e2, e3⟩ := hRC.writes
         rw [o1] at e1
         have hgr : r ≠ g := fun e => hRC.apart.1 (e ▸ hg)
         have hwg : ∀ b, C.wv.ownBlock = some b → b ≠ g := fun b hb e => hRC.apart.2.2 g hg (e ▸ hb)
         have hsz5 : (W.setCell ⟨g, k * 6 + 2, none⟩ u).heap.size = W.heap.size := by simp [World.setCell]
         have hblk5 : (W.setCell ⟨g, k * 6 + 2, none⟩ u).heap[r]? = W.heap[r]? := Below.heap_setCell _ _ _ _ hgr
         obtain ⟨_, cur, hgb⟩ := owned_at h2.lrow hg
         have hlw : wc.heap.size ≤ W.heap.size := hW.size
         have hrl := (hRC.own_lt (.inl rfl : C.own r r)).2
         refine ⟨wv1, wv3, ?_, ?_, fun W2 hW2 => ⟨?_, ?_, fun W3 v ho hgrow hat9 => ?_⟩⟩
         ·rw [(heap_ext hblk5 1).1, ← e1]; exact h2.cell 1
         ·rw [cell_at (set_at hgb _ _), Array.getElem?_setIfInBounds_ne (by omega)]
          have h9 := hcc 1 _ rfl
          rw [← (heap_ext (hW.block g (hRC.own_lt (.inr (.inl hg))).2) (k * 6 + 1)).1, cell_at hgb] at h9
          exact h9
         ·rw [← e1, ← o1]
          exact own_keep (owned_fr h2.wrow fun b hb => Below.heap_setCell _ _ _ _ (hwg b hb)) hW2
         ·have h8 := hRC.lo_
          have h9 := hW2.size
          omega
         ·have h9 := hRC.wroteStep (by rw [o1]; exact hl) (k := k) (t := t) (i := q) HCf.out d hg (by rw [HCn.out]; exact hq1) hq2 hW hu hW2 (W3 := W3) (v := v) (by rw [o1]; exact ho) (by rw [e1]; exact hgrow) (by rw [e1]; exact hat9)
          have hr3 : W3.heap[r]? = W2.heap[r]? := hgrow.block r (by have := hW2.size; omega) (fun e => hRC.apart.2.1 (by rw [e1]; exact e.symm))
          have hr2 : W2.heap[r]? = (W.setCell ⟨g, k * 6 + 2, none⟩ u).heap[r]? := hW2.block r (by omega)
          refine ⟨?_, ?_, HS.out.trans h9⟩
          ·rw [(heap_ext (hr3.trans (hr2.trans hblk5)) 1).1, ← e1]; exact h2.cell 1
          ·rw [(heap_ext (hr3.trans (hr2.trans hblk5)) 1).2]; exact h2.free 1
        have HCrash : Hid (∀ W u v, RStep lo w r D W (C.wrote k f t q d u v) → (∃ ka km kc, D.kv = .slice ka km kc ∧ W.cell? ⟨r, 6, none⟩ = some (.slice ka km kc)) ∧ Calls Tryz.prog 48 #[.pointer (some ⟨r, 0, none⟩), D.kv] W (CrashP lo W r (C.wrote k f t q d u v) ks)) := fun W u v hs => by
         have hi := hs.ints hv
         have ekv : (C.wrote k f t q d u v).kv = D.kv := o3
         refine ⟨?_, ?_⟩
         ·have h6 := hs.at'.cell 6
          have h6' : W.cell? ⟨r, 6, none⟩ = some D.kv := by rw [← ekv]; exact h6
          rcases hv with ⟨a9, c9, e9, _⟩ | ⟨g9, o9, c9, e9, _⟩
          ·exact ⟨_, _, _, e9, by rw [h6', e9]⟩
          ·exact ⟨_, _, _, e9, by rw [h6', e9]⟩
         ·refine hs.at'.crash (by show C.off = false; rw [o4]; exact HOff.out) ks D.kv hi (fun x hx => ?_) (fun x hx => ?_)
          ·have hx' : x ∈ C.ws ++ [_] := hx
           rcases List.mem_append.1 hx' with h9 | h9
           ·exact hw x (by rw [← o1]; exact h9)
           ·obtain rfl := List.mem_singleton.1 h9
            refine ⟨hq2, HD.out, ?_⟩
            rcases o6 with h8 | h8
            ·exact (hfs f h8).1
            ·show f.id ≤ 1000000; omega
          ·have hx' : x ∈ C.fs.set k _ := hx
           have hy : ∃ y ∈ C.fs, x.id = y.id ∧ x.safe = y.safe := by
            rcases List.mem_or_eq_of_mem_set hx' with h9 | rfl
            ·exact ⟨x, h9, rfl, rfl⟩
            ·exact ⟨f, List.mem_of_getElem? HCf.out, rfl, rfl⟩
           obtain ⟨y, hy1, hy2, hy3⟩ := hy
           rw [hy2, hy3]
           rcases o5 y hy1 with h9 | ⟨h9, h8⟩
           ·exact hfs y h9
           ·exact ⟨by omega, fun s hs => by rw [h8] at hs; simp at hs⟩
        have HFin : Hid (∀ W u v, RStep lo w r D W (C.wrote k f t q d u v) → (D.fallsB = false → WrR lo w r D s q d t ks (.returned (.int .i64 0)) W) ∧ (D.fallsB = true → ∀ z W', CrashP lo W r (C.wrote k f t q d u v) ks z W' → WrR lo w r D s q d t ks (.returned (.int .i64 14)) W')) := fun W u v hs =>
         ⟨fun hb => .done HE0.out hb rfl q k f C u v rfl HOp.out HCf.out (by rw [HCn.out]; exact hq1) hq2 hs, fun hb z W' hc => .falls HE0.out hb rfl q k f C u v rfl HOp.out HCf.out (by rw [HCn.out]; exact hq1) hq2 W hs z hc⟩
        have HGl := Lib.hid ((hRC.own_lt (.inr (.inl hg))).2)
        have HGf : Hid (wc.frozen? ⟨g, k * 6 + 2, none⟩ = false) := by
         obtain ⟨_, cur, hgb⟩ := owned_at hRC.lrow hg
         exact free_at hgb _
        have HLo2 := Lib.hid hRC.lo_
        have hp0 : (0 : Int) ≤ (k : Int) := by omega
        have hp1 : (k : Int) < (C.fs.length : Int) := by omega
        have hml : q ≤ f.now.length := by rw [HCn.out]; exact hq1
        have hfid : Hid (f.id ≤ 1000000) := by
         rcases o6 with h8 | h8
         ·exact (hfs f h8).1
         ·show f.id ≤ 1000000; omega
        obtain ⟨fid, hfi⟩ : ∃ x, x = f.id := ⟨_, rfl⟩
        obtain ⟨L0, hL0⟩ : ∃ x, x = f.now := ⟨_, rfl⟩
        obtain ⟨mw, hmw⟩ : ∃ x, x = D.ws.length := ⟨_, rfl⟩
        obtain ⟨WC, hWC⟩ : ∃ x, x = D.ws.flatMap RW.cells := ⟨_, rfl⟩
        have HWCl : Hid (WC.length = mw * 3) := by rw [hWC, hmw]; exact flat_length RW.three _
        rw [← hL0, ← hfi, ← hmw, ← hWC] at HWr
        rw [← hL0] at hm4 m2 hN9 hN8 hml
        rw [← hfi] at hfid
        rw [← hmw] at hl
        clear HOp HCf HCn HS o1 o2 o3 o4 o5 o6 hRC hv1 hv2 hv3 hg hcc hnow t2 t3 t4 t5 hkC HK HF HN HAt HR HU HU2 HErr HErr2 HN0 HFu HRw HFa HRd HFull HE0 hfs hw hv hfi hL0 hmw hWC h0 h1
        generalize C.fs.length = nC at *
        clear c0 c2 c3
        generalize wc = Wc at *
        go_upto_if 130 with (at_builtin; refine wpList_app rfl _ _ 99 rfl Wc.heap.size 9 i1 (.string ⟨#[]⟩) 1 16 Tryz.underlying99 hi1 hy0' hy1 hy2 rfl (by decide) (.slice none 0 0) 0 [] rfl (World.ownsRow_nil _ _ _ _) a2 L0.length c2' (L0.map Value.string) rfl (by simp) hN9.out hN8.out (strs_one L0) (by unfold maxLen; omega) (by omega) (Nat.le_refl _) ?_; intro p1 s1 w2 hown2 hgrow2 hat2; have HB2 : Hid (Below Wc.heap.size Wc w2) := Fr.below (fr_grown hgrow2 (by intro k hk; cases hk)); have HO2 : Hid (w2.ownsRow Wc.heap.size 9 1 (.slice p1 L0.length s1) L0.length (L0.map Value.string)) := (by rw [Nat.zero_add, List.nil_append] at hown2; exact hown2); clear hown2 hgrow2 hat2)
        go_cut [13] from 14 (fun v W => ∃ p s l, v = .slice p (List.length l) s ∧ Hid (q < l.length ∧ l.set q d = putAt L0 q d) ∧ Hid (Below Wc.heap.size Wc W) ∧ Hid (W.ownsRow Wc.heap.size 9 1 v l.length (l.map Value.string)))
        case first =>
         by_cases hA : q = L0.length
         ·have e1 : ((q : Int) == (L0.length : Int)) = true := by rw [beq_iff_eq]; omega
          have HAq := Lib.hid hA
          have HO2a : Hid ((w2.alloc (.cells #[.string d] 9)).ownsRow Wc.heap.size 9 1 (.slice p1 L0.length s1) L0.length (L0.map Value.string)) := own_keep HO2.out (below_new _ _)
          have HB2a : Hid (Below Wc.heap.size Wc (w2.alloc (.cells #[.string d] 9))) := thenBelow HB2.out (below_new _ _)
          clear hA
          go_wp2_with (at_builtin; refine wpList_app rfl _ _ 99 rfl Wc.heap.size 9 i1 (.string ⟨#[]⟩) 1 16 Tryz.underlying99 hi1 hy0' hy1 hy2 rfl (by decide) (.slice p1 L0.length s1) L0.length (L0.map Value.string) (by first | rfl | simp) HO2a.out (some ⟨w2.heap.size, 0, none⟩) 1 1 [.string d] (by first | rfl | simp) rfl (by intro A hA; cases hA; exact cell_one_new _ _ _) (by intro q; cases q) (by intro u hu; simp at hu; subst hu; rfl) (by unfold maxLen; omega) (by omega) HB2a.out.size ?_; intro p4 s4 w4 hown4 hgrow4 hat4; have HB4 : Hid (Below Wc.heap.size Wc w4) := Fr.new HB2a.out (fr_grown (S := fun q => (Value.slice p1 L0.length s1).ownBlock = some q) hgrow4 (fun q e => e)) (fun q e => (owned_at HO2.out e).1); have HO4 : Hid (w4.ownsRow Wc.heap.size 9 1 (.slice p4 (L0.length + 1) s4) (L0.length + 1) (L0.map Value.string ++ [.string d])) := hown4; clear hown4 hgrow4 hat4)
          go_meet
          refine ⟨p4, s4, L0 ++ [d], by simp, ⟨by have := HAq.out; simp; omega, ?_⟩, HB4, ?_⟩
          ·unfold putAt
           rw [if_pos HAq.out, HAq.out]
           simp
          ·have h9 := HO4.out
           rw [show (L0 ++ [d]).length = L0.length + 1 by simp, List.map_append]
           exact h9
         ·have e1 : ((q : Int) == (L0.length : Int)) = false := by rw [beq_eq_false_iff_ne]; omega
          have HAq := Lib.hid hA
          clear hA
          go_wp2
          go_meet
          exact ⟨p1, s1, L0, by first | rfl | simp, ⟨by have := HAq.out; omega, by unfold putAt; rw [if_neg HAq.out]⟩, HB2, by first | exact HO2 | (simp; exact HO2.out)⟩
        case rest =>
         obtain ⟨p3, s3, l, rfl, HL, HB3, HO3⟩ := hcut
         obtain ⟨gs, cs, hvs, hcs, hgs1, hgs2⟩ := owns_form HO3.out (by have := HL.out.1; omega)
         obtain ⟨rfl, rfl⟩ : p3 = some ⟨gs, 0, none⟩ ∧ s3 = cs := by simpa using hvs
         have hql := HL.out.1
         obtain ⟨tt, htt⟩ : ∃ t, l[q]? = some t := ⟨_, List.getElem?_eq_getElem hql⟩
         have x3 : wc.cell? ⟨gs, q, none⟩ = some (.string tt) := by
          have h9 := HO3.out.cells (show (Value.slice (some ⟨gs, 0, none⟩) l.length s3).ownBlock = some gs from rfl) q (.string tt) (by rw [List.getElem?_map, htt]; rfl)
          rwa [Go.WideShapes.add_plain, Nat.zero_add] at h9
         have x4 : wc.frozen? ⟨gs, q, none⟩ = false := by
          obtain ⟨_, cur, e9⟩ := owned_at HO3.out (show (Value.slice (some ⟨gs, 0, none⟩) l.length s3).ownBlock = some gs from rfl)
          exact free_at e9 q
         have hBs : Below Wc.heap.size Wc (wc.setCell ⟨gs, q, none⟩ (.string d)) := Only.new HB3.out ((Only.refl gs wc).setCell _ _) hgs1
         have hOs : (wc.setCell ⟨gs, q, none⟩ (.string d)).ownsRow Wc.heap.size 9 1 (.slice (some ⟨gs, 0, none⟩) l.length s3) (putAt L0 q d).length ((putAt L0 q d).map Value.string) := by
          have h9 : (wc.setCell ⟨gs, q, none⟩ (.string d)).ownsRow Wc.heap.size 9 1 (.slice (some ⟨gs, 0, none⟩) l.length s3) l.length ((l.set q d).map Value.string) := own_put HO3.out q d
          rw [← HL.out.2, List.length_set]
          exact h9
         obtain ⟨wv1, wv3, y1, y2, HY⟩ := HWr.out _ _ hBs hOs
         have y3 : (wc.setCell ⟨gs, q, none⟩ (.string d)).cell? ⟨g, k * 6 + 2, none⟩ = some (.slice a2 L0.length c2') := by
          rw [(heap_ext (hBs.block g HGl.out) (k * 6 + 2)).1]; exact m2
         have y4 : (wc.setCell ⟨gs, q, none⟩ (.string d)).frozen? ⟨g, k * 6 + 2, none⟩ = false := by
          rw [(heap_ext (hBs.block g HGl.out) (k * 6 + 2)).2]; exact HGf.out
         have hq0 : (0 : Int) ≤ (q : Int) := by omega
         have hq3 : (q : Int) < (l.length : Int) := by omega
         have HFin2 := Lib.hid (fun W u v hs => HFin.out W u v hs)
         clear hvs htt hBs hOs HL HB3 HO3 m0 m2
         generalize l.length = ln at *
         go_upto_region 24 with fail
         generalize hW5 : (wc.setCell ⟨gs, q, none⟩ (.string d)).setCell ⟨g, k * 6 + 2, none⟩ (.slice (some ⟨gs, 0, none⟩) ln s3) = W5 at *
         have HB6 : Hid (Below W5.heap.size W5 ((W5.alloc (.cells #[.int .i64 fid, .int .i64 q, .string d] 129)).drew)) := (below_new _ _).drew
         obtain ⟨hO6, hL6, hE6⟩ := HY.out _ HB6.out
         have HO6 := Lib.hid hO6
         have HL6 := Lib.hid hL6
         have HE6 := Lib.hid hE6
         have hN6 : Hid (∀ A, some (⟨W5.heap.size, 0, none⟩ : Addr) = some A → ∀ (j : Nat) (u : Value), [.int .i64 fid, .int .i64 q, .string d][j]? = some u → ((W5.alloc (.cells #[.int .i64 fid, .int .i64 q, .string d] 129)).drew).cell? (A.add j) = some u) := fun A hA j u hu => by
          cases hA
          exact cells3_new _ _ _ _ _ j u hu
         have kA : (W5.alloc (.cells #[.int .i64 fid, .int .i64 q, .string d] 129)).cell? ⟨r, 1, none⟩ = some (.slice wv1 mw wv3) := by
          have hrW : r < W5.heap.size := by
           refine Nat.lt_of_not_le fun hle => ?_
           have : W5.heap[r]? = none := Array.getElem?_eq_none hle
           rw [World.cell?] at y1
           simp [this] at y1
          rw [(heap_ext ((below_new W5 _).block r hrW) 1).1]; exact y1
         clear hO6 hL6 hE6 hW5 y3 y4 x3 x4
         go_region_law (first
          | (refine step_app rfl (.tmp 147) (.tmp 155) 28 rfl lo 129 i3 z3 3 32 Tryz.underlying28 hi3 hz30 hz31 hz32 HZ3.out (by decide) (.slice wv1 mw wv3) mw WC (by simp [Act.eval, Act.put]) HO6.out (some ⟨W5.heap.size, 0, none⟩) 1 1 [.int .i64 fid, .int .i64 q, .string d] (by simp [Act.eval, Act.put]) rfl hN6.out (by intro q; cases q) (by intro u hu; simp at hu; rcases hu with rfl | rfl | rfl <;> rfl) (by unfold maxLen; omega) (by omega) HL6.out ?_; intro p9 s9 w9 hown9 hgrow9 hat9; obtain ⟨r1, r2, HQ⟩ := HE6.out _ _ hown9 hgrow9 hat9; clear hown9 hgrow9 hat9))
         all_goals
          obtain ⟨⟨ka, km, kc, ekv, k6⟩, hcr⟩ := HCrash.out _ _ _ HQ.out
          rw [ekv] at hcr
          have HCr := Lib.hid hcr
          have HF9 := Lib.hid (HFin2.out _ _ _ HQ.out)
          clear hcr ekv
          cases b with
          | false =>
           have HG := Lib.hid (HF9.out.1 HBb.out.symm)
           go_wp2
           go_ret
           exact HG.out
          | true =>
           have HG := Lib.hid (HF9.out.2 HBb.out.symm)
           go_wp2_with (go_at_call 48; (with_reducible refine HCr.out.mono ?_); intro e w2 hc; have HC2 := Lib.hid (HG.out _ _ hc); obtain ⟨E9, rfl, -, -⟩ := hc)
           go_ret
           exact HC2.out
end
end Go.Proofs.YtbkngnjkaledlaaGreat.P4
