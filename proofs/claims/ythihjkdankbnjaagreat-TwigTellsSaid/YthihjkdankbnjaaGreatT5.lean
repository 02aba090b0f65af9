/-
  Kids: the reference's ReadKids.
-/
import Derived.Test.YthihjkdankbnjaaGreatT4
import Derived.Deep.Cut
namespace Go.Proofs.YthihjkdankbnjaaGreat.P10
open Go Go.RowKit Go.Lib Go.Proofs.YthihjkdankbnjaaGreat.PK
open Go.Proofs.YthihjkdankbnjaaGreat.P0 (low str str_size low_length size_app text_ext text_app str_list same_true same_false)
open Go.Proofs.YthihjkdankbnjaaGreat.PP (RGetAt refNum refTxt refStr refFin Fr rGetNum_any rGetText_any rEnd_any refStr_size num_lt wrap_small)

theorem num1_range (s : ByteArray) (e : Int) : 0 ≤ (refNum 1 s e).1 ∧ (refNum 1 s e).1 ≤ 255 := by
  have h1 := refStr_size 1 s e
  have h2 := num_lt (refStr ((1 : Nat) : Int) s e).1.data.toList
  have h3 : 256 ^ (refStr ((1 : Nat) : Int) s e).1.data.toList.length ≤ 256 ^ 1 := Nat.pow_le_pow_right (by omega) (by simpa using h1)
  have e1 : (refNum 1 s e).1 = wrap64 ((PP.num (refStr ((1 : Nat) : Int) s e).1.data.toList : Nat) : Int) := rfl
  have e2 : wrap64 ((PP.num (refStr ((1 : Nat) : Int) s e).1.data.toList : Nat) : Int) = ((PP.num (refStr ((1 : Nat) : Int) s e).1.data.toList : Nat) : Int) := PP.wrap_small _ (by omega)
  rw [e1, e2]
  omega

theorem runR_len (B : ByteArray) (e : Int) : ∀ j, (runR B e j).2.2.length ≤ j
  | 0 => Nat.le_refl _
  | j + 1 => by
    have ih := runR_len B e j
    by_cases h : (runR B e j).2.1 = 0
    · rw [runR_next h]
      show ((runR B e j).2.2 ++ [_]).length ≤ j + 1
      rw [List.length_append, List.length_singleton]
      omega
    · rw [runR_stay h (Nat.le_succ j)]
      omega

theorem cellsI_snoc (l : List It) (c : It) : (cellsI (l ++ [c])).flatten = (cellsI l).flatten ++ [.string c.key, .int .i64 c.page] := by
  simp [cellsI, It.cells]
theorem RdS.grown {w wr w' : World} {G : Nat} {B : ByteArray} {e : Int} {v v' : Value} {l : List It} (h : RdS w G B e v l wr) (c : It) (hown : w'.ownsRow (G + 1) 50 2 v' (l.length + 1) ((cellsI l).flatten ++ [.string c.key, .int .i64 c.page])) (hg : wr.grownBy w' v.ownBlock) : RdS w G B e v' (l ++ [c]) w' := by
  refine ⟨?_, ?_, h.lo, h.below.grown hg h.below.size (fun k hk => ?_)⟩
  · exact (hg.block G h.lt (fun e => by have := (h.row.lt G e.symm).1; omega)).trans h.g
  · rw [cellsI_snoc, List.length_append, List.length_singleton]
    exact hown
  · have := (h.row.lt k hk).1
    have := h.lo
    omega
theorem RdS.its {w wr : World} {G : Nat} {B : ByteArray} {e : Int} {v : Value} {l : List It} (h : RdS w G B e v l wr) (hl : l.length ≤ 1000000) : ItsIn wr v l := by
  refine tRow_elems (κ := kKids) (lo := G + 1) ?_ (by rw [cellsI_length]; omega) (cellsI_ok l)
  show wr.ownsRow (G + 1) 50 2 v (cellsI l).length (cellsI l).flatten
  rw [cellsI_length]
  exact h.row
theorem owns_its {w : World} {lo : Nat} {v : Value} {l : List It} (h : w.ownsRow lo 50 2 v l.length (cellsI l).flatten) (hl : l.length ≤ 1000000) : ItsIn w v l := by
  refine tRow_elems (κ := kKids) (lo := lo) ?_ (by rw [cellsI_length]; omega) (cellsI_ok l)
  show w.ownsRow lo 50 2 v (cellsI l).length (cellsI l).flatten
  rw [cellsI_length]
  exact h

set_option maxRecDepth 100000 in
set_option maxHeartbeats 8000000 in
theorem rread_any (w : World) (b : ByteArray) (hb : b.size ≤ 100000) :
    Calls Tryz.prog 10 #[.string b] w fun e w' => ∃ v, e = .returned (.tuple #[v, .int .i64 (readR b).2]) ∧ OwnI w.heap.size w' v (readR b).1 ∧ Below w.heap.size w w' := by
  obtain ⟨i0, hi0, hz0, hz1, hz2⟩ := info_parts infoEKids
  have HN : Hid (∀ W B e, RGetAt W w.heap.size B e → Calls Tryz.prog 36 #[.pointer (some ⟨w.heap.size, 0, none⟩), .int .i64 1] W fun r w' => r = .returned (.int .i64 (refNum 1 B e).1) ∧ RGetAt w' w.heap.size (refNum 1 B e).2.1 (refNum 1 B e).2.2 ∧ Fr w.heap.size W w') := fun W B e h => rGetNum_any W w.heap.size B e 1 (by omega) h
  have HN2 : Hid (∀ W B e, RGetAt W w.heap.size B e → Calls Tryz.prog 36 #[.pointer (some ⟨w.heap.size, 0, none⟩), .int .i64 2] W fun r w' => r = .returned (.int .i64 (refNum 2 B e).1) ∧ RGetAt w' w.heap.size (refNum 2 B e).2.1 (refNum 2 B e).2.2 ∧ Fr w.heap.size W w') := fun W B e h => rGetNum_any W w.heap.size B e 2 (by omega) h
  have HT : Hid (∀ W B e, RGetAt W w.heap.size B e → Calls Tryz.prog 37 #[.pointer (some ⟨w.heap.size, 0, none⟩)] W fun r w' => r = .returned (.string (refTxt B e).1) ∧ RGetAt w' w.heap.size (refTxt B e).2.1 (refTxt B e).2.2 ∧ Fr w.heap.size W w') := fun W B e h => rGetText_any W w.heap.size B e h
  have HE : Hid (∀ W B e, RGetAt W w.heap.size B e → Calls Tryz.prog 38 #[.pointer (some ⟨w.heap.size, 0, none⟩)] W fun r w' => r = .returned (.int .i64 (refFin B e)) ∧ Fr w.heap.size W w') := fun W B e h => rEnd_any W w.heap.size B e h
  have HG0 : Hid (RGetAt (w.alloc (.cells #[.string b, .int .i64 0] 73)) w.heap.size b 0) := new_at w _ _
  obtain ⟨n1, n2⟩ := num1_range b 0
  obtain ⟨n, hn⟩ : ∃ n, n = (refNum 1 b 0).1.toNat := ⟨_, rfl⟩
  have hn1 : (refNum 1 b 0).1 = (n : Int) := by omega
  have hn2 : n ≤ 255 := by omega
  have HB0 : Hid (Below w.heap.size w (w.alloc (.cells #[.string b, .int .i64 0] 73))) := below_new _ _
  have HAl : Hid (allR b = runR (refNum 1 b 0).2.1 (refNum 1 b 0).2.2 n) := by rw [hn]; rfl
  have HN0 := Lib.hid (HN.out _ _ _ HG0.out)
  rw [hn1] at HN0
  clear hn hn1 n1 n2
  go_enter Tryz.func10, Tryz.ntmps10
  go_wp2_with (go_at_call 36; (with_reducible refine (HN0.out).mono ?_); rintro e w1 ⟨rfl, hg, hf⟩; have S0 := Lib.hid (⟨hg, World.ownsRow_nil _ _ _ _, Nat.le_refl _, HB0.out.trans hf.below⟩ : RdS w w.heap.size (refNum 1 b 0).2.1 (refNum 1 b 0).2.2 (.slice none 0 0) [] w1); clear hg hf)
  obtain ⟨B0, hB0⟩ : ∃ B0, B0 = (refNum 1 b 0).2.1 := ⟨_, rfl⟩
  obtain ⟨e0, he0⟩ : ∃ e0, e0 = (refNum 1 b 0).2.2 := ⟨_, rfl⟩
  rw [← hB0, ← he0] at S0 HAl
  clear HN0 HG0 HB0 hB0 he0
  go_loopw [6, 7] (fun vl vi wr => ∃ i : Nat, i ≤ n ∧ vi = .int .i64 i ∧ Hid (RdS w w.heap.size (runR B0 e0 i).1 (runR B0 e0 i).2.1 vl (runR B0 e0 i).2.2 wr)) (fun _ vi _ => n - (RowKit.intOf vi).toNat)
  case atStart => exact ⟨0, Nat.zero_le _, rfl, S0⟩
  case round =>
    clear S0
    obtain ⟨i, hi, rfl, H⟩ := hrel
    obtain ⟨⟨B, e, L⟩, hS⟩ : ∃ s, s = runR B0 e0 i := ⟨_, rfl⟩
    rw [← hS] at H
    simp only at H
    have HS := Lib.hid hS
    clear hS
    by_cases hlt : i < n
    · have k1 : decide ((i : Int) < (n : Int)) = true := decide_eq_true (by omega)
      have k1' : decide (i < n) = true := decide_eq_true hlt
      have q1 : wr.cell? ⟨w.heap.size, 1, none⟩ = some (.int .i64 e) := H.out.g.c1
      by_cases he : e = 0
      · have k2 : (e == 0) = true := by simp [he]
        have HX0 := Lib.hid he
        clear he
        have HNk := Lib.hid (HN2.out _ _ _ H.out.g)
        have HSt : Hid (runR B0 e0 (i + 1) = stepR (B, e, L)) := by
          have h9 := HS.out
          have h8 : (runR B0 e0 i).2.1 = 0 := by rw [← h9]; exact HX0.out
          show runR B0 e0 (i + 1) = stepR (B, e, L)
          rw [show runR B0 e0 (i + 1) = stepR (runR B0 e0 i) from runR_next h8, ← h9]
        obtain ⟨⟨k, B1, e1⟩, hk⟩ : ∃ s, s = refNum 2 B e := ⟨_, rfl⟩
        rw [← hk] at HNk
        simp only at HNk
        obtain ⟨⟨x, B2, e2⟩, hx⟩ : ∃ s, s = refTxt B1 e1 := ⟨_, rfl⟩
        have HF : Hid (runR B0 e0 (i + 1) = (B2, e2, L ++ [⟨x, k⟩])) := by
          show runR B0 e0 (i + 1) = (B2, e2, L ++ [⟨x, k⟩])
          rw [HSt.out]
          unfold stepR
          simp only [← hk, ← hx]
        have HT1 : Hid (∀ W, RGetAt W w.heap.size B1 e1 → Calls Tryz.prog 37 #[.pointer (some ⟨w.heap.size, 0, none⟩)] W fun r w' => r = .returned (.string x) ∧ RGetAt w' w.heap.size B2 e2 ∧ Fr w.heap.size W w') := fun W h => by
          have := HT.out W _ _ h
          rw [← hx] at this
          exact this
        clear hk hx HSt HT HN HN2 HE
        have hLb : L.length ≤ 255 := by
          have h9 := runR_len B0 e0 i
          rw [← HS.out] at h9
          exact Nat.le_trans h9 (by omega)
        obtain ⟨va, vn, vc, rfl⟩ := owns_shape H.out.row
        go_wp2_with (first
          | (go_at_call 36; (with_reducible refine (HNk.out).mono ?_); rintro e w2 ⟨rfl, hg, hf⟩; have X1 := Lib.hid ((H.out.call hg hf).item ⟨⟨#[]⟩, k⟩); clear hg hf)
          | (go_at_call 37; (with_reducible refine (HT1.out _ X1.out.s.g).mono ?_); rintro e w3 ⟨rfl, hg, hf⟩; have X1c := X1.out.call hg hf; obtain ⟨y0, y1⟩ := X1c.cells; have f0 := free_at X1c.x 0; have X3 := Lib.hid (X1c.set (c' := ⟨x, k⟩) 0 (.string x) rfl); obtain ⟨x0, x1⟩ := X3.out.cells; clear hg hf X1c)
          | (at_builtin; refine wpList_append_own _ rfl _ _ 22 rfl (w.heap.size + 1) 50 i0 (Value.agg #[.string ⟨#[]⟩, .int .i64 0]) 2 24 Tryz.underlying22 hi0 hz0 hz1 hz2 rfl (by decide) _ L.length (cellsI L).flatten rfl (X3.out.s.row.alloc _) ⟨w3.heap.size, 0, none⟩ 1 1 [.string x, .int .i64 k] rfl rfl ?c1 ?c2 ?c3 ?c4 ?c5 ?_))
        case c1 => simpa using cells_new (w3.setCell ⟨w2.heap.size, 0, none⟩ (.string x)) [.string x, .int .i64 k] 50
        case c2 => exact kKids.one _ ⟨_, _, rfl⟩
        case c3 => unfold maxLen; omega
        case c4 => omega
        case c5 => have := X3.out.s.lt; simp at this ⊢; omega
        intro v' w5 hown' hgrow _
        have S5 := Lib.hid ((X3.out.s.over (below_new _ _)).grown ⟨x, k⟩ hown' hgrow)
        clear hown' hgrow
        go_wp2
        go_roundw
        case rel => exact ⟨i + 1, by omega, by go_num, by rw [HF.out]; exact S5⟩
        case measure => simp [RowKit.intOf]; omega
      · have k2 : (e == 0) = false := beq_eq_false_iff_ne.2 he
        have HAn : Hid (allR b = (B, e, L)) := by
          show allR b = (B, e, L)
          have h9 := HS.out
          rw [HAl.out, runR_stay (j := i) (by rw [← h9]; exact he) (by omega), ← h9]
        have hLb : L.length ≤ 255 := by
          have h9 := runR_len B0 e0 i
          rw [← HS.out] at h9
          exact Nat.le_trans h9 (by omega)
        clear he HS HAl HN HN2 HT
        obtain ⟨va, vn, vc, rfl⟩ := owns_shape H.out.row
        have HEn := Lib.hid (HE.out _ _ _ H.out.g)
        have HIts : Hid (∀ W', Fr w.heap.size wr W' → OwnI w.heap.size W' (.slice va vn vc) L) := fun W' hf => ⟨owns_lo (owns_fr H.out.row (Nat.lt_succ_self _) hf) (by omega), by omega⟩
        have HBl : Hid (∀ W', Fr w.heap.size wr W' → Below w.heap.size w W') := fun W' hf => H.out.below.trans hf.below
        clear HE
        by_cases hf0 : refFin B e = 0
        · have hsum : sumI L ≤ 1000000 := by
            have h9 := (allR_sum (b := b) (by rw [HAn.out]; exact hf0)).2
            rw [HAn.out] at h9
            exact Nat.le_trans h9 (by omega)
          rw [hf0] at HEn
          have HLy : Hid (∀ W, ItsIn W (.slice va vn vc) L → Calls Tryz.prog 8 #[.slice va vn vc] W fun e w' => e = .returned (.tuple #[.string (layR L).1, .int .i64 (layR L).2]) ∧ Below W.heap.size W w') := fun W h => rlay_any W _ L h hsum
          obtain ⟨⟨S, f⟩, hly⟩ : ∃ s, s = layR L := ⟨_, rfl⟩
          have HRR : readR b = if f = 0 ∧ S = b then (L, 0) else ([], 6) := by
            unfold readR
            rw [HAn.out]
            simp only
            rw [if_pos hf0, ← hly]
          rw [← hly] at HLy
          simp only at HLy
          clear hly hf0 hsum
          by_cases hf : f = 0
          · have m1 : (f != 0) = false := by simp [hf]
            by_cases hS : S = b
            · have m2 : (S.toList == b.toList) = true := same_true hS
              have HRd := Lib.hid (HRR.trans (if_pos ⟨hf, hS⟩))
              clear hf hS HRR
              go_wp2_with (first
                | (go_at_call 38; (with_reducible refine (HEn.out).mono ?_); rintro e w6 ⟨rfl, hf6⟩; have I6 := Lib.hid (HIts.out _ hf6); have B6 := Lib.hid (HBl.out _ hf6); clear hf6)
                | (go_at_call 8; (with_reducible refine (HLy.out _ I6.out.its).mono ?_); rintro e w7 ⟨rfl, hb7⟩; have I7 := Lib.hid (I6.out.below hb7); have B7 := Lib.hid (thenBelow B6.out hb7); clear hb7))
              go_ret2
              exact ⟨_, by rw [HRd.out]; rfl, by rw [HRd.out]; exact I7.out, B7.out⟩
            · have m2 : (S.toList == b.toList) = false := same_false hS
              have HRd := Lib.hid (HRR.trans (if_neg (fun h => hS h.2)))
              clear hf hS HRR
              go_wp2_with (first
                | (go_at_call 38; (with_reducible refine (HEn.out).mono ?_); rintro e w6 ⟨rfl, hf6⟩; have I6 := Lib.hid (HIts.out _ hf6); have B6 := Lib.hid (HBl.out _ hf6); clear hf6)
                | (go_at_call 8; (with_reducible refine (HLy.out _ I6.out.its).mono ?_); rintro e w7 ⟨rfl, hb7⟩; have I7 := Lib.hid (I6.out.below hb7); have B7 := Lib.hid (thenBelow B6.out hb7); clear hb7))
              go_ret2
              exact ⟨_, by rw [HRd.out]; rfl, by rw [HRd.out]; exact OwnI.nil _ _, B7.out⟩
          · have m1 : (f != 0) = true := by simpa using hf
            have HRd := Lib.hid (HRR.trans (if_neg (fun h => hf h.1)))
            clear hf HRR
            go_wp2_with (first
              | (go_at_call 38; (with_reducible refine (HEn.out).mono ?_); rintro e w6 ⟨rfl, hf6⟩; have I6 := Lib.hid (HIts.out _ hf6); have B6 := Lib.hid (HBl.out _ hf6); clear hf6)
              | (go_at_call 8; (with_reducible refine (HLy.out _ I6.out.its).mono ?_); rintro e w7 ⟨rfl, hb7⟩; have I7 := Lib.hid (I6.out.below hb7); have B7 := Lib.hid (thenBelow B6.out hb7); clear hb7))
            go_ret2
            exact ⟨_, by rw [HRd.out]; rfl, by rw [HRd.out]; exact OwnI.nil _ _, B7.out⟩
        · have HRR : readR b = ([], refFin B e) := by
            unfold readR
            rw [HAn.out]
            simp only
            rw [if_neg hf0]
          have m1 : (refFin B e != 0) = true := by simpa using hf0
          obtain ⟨F, hF⟩ : ∃ F, F = refFin B e := ⟨_, rfl⟩
          rw [← hF] at HEn m1 HRR
          have HRd := Lib.hid HRR
          clear hF HRR hf0
          go_wp2_with (go_at_call 38; (with_reducible refine (HEn.out).mono ?_); rintro e w6 ⟨rfl, hf6⟩; have I6 := Lib.hid (HIts.out _ hf6); have B6 := Lib.hid (HBl.out _ hf6); clear hf6)
          go_ret2
          exact ⟨_, by rw [HRd.out]; rfl, by rw [HRd.out]; exact OwnI.nil _ _, B6.out⟩
    · have e9 : i = n := by omega
      subst e9
      have k1 : decide ((i : Int) < (i : Int)) = false := decide_eq_false (by omega)
      have HAn : Hid (allR b = (B, e, L)) := by
        show allR b = (B, e, L)
        rw [HAl.out, ← HS.out]
      have hLb : L.length ≤ 255 := by
        have h9 := runR_len B0 e0 i
        rw [← HS.out] at h9
        exact Nat.le_trans h9 (by omega)
      clear HS HAl HN HN2 HT
      obtain ⟨va, vn, vc, rfl⟩ := owns_shape H.out.row
      have HEn := Lib.hid (HE.out _ _ _ H.out.g)
      have HIts : Hid (∀ W', Fr w.heap.size wr W' → OwnI w.heap.size W' (.slice va vn vc) L) := fun W' hf => ⟨owns_lo (owns_fr H.out.row (Nat.lt_succ_self _) hf) (by omega), by omega⟩
      have HBl : Hid (∀ W', Fr w.heap.size wr W' → Below w.heap.size w W') := fun W' hf => H.out.below.trans hf.below
      clear HE
      by_cases hf0 : refFin B e = 0
      · have hsum : sumI L ≤ 1000000 := by
          have h9 := (allR_sum (b := b) (by rw [HAn.out]; exact hf0)).2
          rw [HAn.out] at h9
          exact Nat.le_trans h9 (by omega)
        rw [hf0] at HEn
        have HLy : Hid (∀ W, ItsIn W (.slice va vn vc) L → Calls Tryz.prog 8 #[.slice va vn vc] W fun e w' => e = .returned (.tuple #[.string (layR L).1, .int .i64 (layR L).2]) ∧ Below W.heap.size W w') := fun W h => rlay_any W _ L h hsum
        obtain ⟨⟨S, f⟩, hly⟩ : ∃ s, s = layR L := ⟨_, rfl⟩
        have HRR : readR b = if f = 0 ∧ S = b then (L, 0) else ([], 6) := by
          unfold readR
          rw [HAn.out]
          simp only
          rw [if_pos hf0, ← hly]
        rw [← hly] at HLy
        simp only at HLy
        clear hly hf0 hsum
        by_cases hf : f = 0
        · have m1 : (f != 0) = false := by simp [hf]
          by_cases hS : S = b
          · have m2 : (S.toList == b.toList) = true := same_true hS
            have HRd := Lib.hid (HRR.trans (if_pos ⟨hf, hS⟩))
            clear hf hS HRR
            go_wp2_with (first
              | (go_at_call 38; (with_reducible refine (HEn.out).mono ?_); rintro e w6 ⟨rfl, hf6⟩; have I6 := Lib.hid (HIts.out _ hf6); have B6 := Lib.hid (HBl.out _ hf6); clear hf6)
              | (go_at_call 8; (with_reducible refine (HLy.out _ I6.out.its).mono ?_); rintro e w7 ⟨rfl, hb7⟩; have I7 := Lib.hid (I6.out.below hb7); have B7 := Lib.hid (thenBelow B6.out hb7); clear hb7))
            go_ret2
            exact ⟨_, by rw [HRd.out]; rfl, by rw [HRd.out]; exact I7.out, B7.out⟩
          · have m2 : (S.toList == b.toList) = false := same_false hS
            have HRd := Lib.hid (HRR.trans (if_neg (fun h => hS h.2)))
            clear hf hS HRR
            go_wp2_with (first
              | (go_at_call 38; (with_reducible refine (HEn.out).mono ?_); rintro e w6 ⟨rfl, hf6⟩; have I6 := Lib.hid (HIts.out _ hf6); have B6 := Lib.hid (HBl.out _ hf6); clear hf6)
              | (go_at_call 8; (with_reducible refine (HLy.out _ I6.out.its).mono ?_); rintro e w7 ⟨rfl, hb7⟩; have I7 := Lib.hid (I6.out.below hb7); have B7 := Lib.hid (thenBelow B6.out hb7); clear hb7))
            go_ret2
            exact ⟨_, by rw [HRd.out]; rfl, by rw [HRd.out]; exact OwnI.nil _ _, B7.out⟩
        · have m1 : (f != 0) = true := by simpa using hf
          have HRd := Lib.hid (HRR.trans (if_neg (fun h => hf h.1)))
          clear hf HRR
          go_wp2_with (first
            | (go_at_call 38; (with_reducible refine (HEn.out).mono ?_); rintro e w6 ⟨rfl, hf6⟩; have I6 := Lib.hid (HIts.out _ hf6); have B6 := Lib.hid (HBl.out _ hf6); clear hf6)
            | (go_at_call 8; (with_reducible refine (HLy.out _ I6.out.its).mono ?_); rintro e w7 ⟨rfl, hb7⟩; have I7 := Lib.hid (I6.out.below hb7); have B7 := Lib.hid (thenBelow B6.out hb7); clear hb7))
          go_ret2
          exact ⟨_, by rw [HRd.out]; rfl, by rw [HRd.out]; exact OwnI.nil _ _, B7.out⟩
      · have HRR : readR b = ([], refFin B e) := by
          unfold readR
          rw [HAn.out]
          simp only
          rw [if_neg hf0]
        have m1 : (refFin B e != 0) = true := by simpa using hf0
        obtain ⟨F, hF⟩ : ∃ F, F = refFin B e := ⟨_, rfl⟩
        rw [← hF] at HEn m1 HRR
        have HRd := Lib.hid HRR
        clear hF HRR hf0
        go_wp2_with (go_at_call 38; (with_reducible refine (HEn.out).mono ?_); rintro e w6 ⟨rfl, hf6⟩; have I6 := Lib.hid (HIts.out _ hf6); have B6 := Lib.hid (HBl.out _ hf6); clear hf6)
        go_ret2
        exact ⟨_, by rw [HRd.out]; rfl, by rw [HRd.out]; exact OwnI.nil _ _, B6.out⟩

end Go.Proofs.YthihjkdankbnjaaGreat.P10
