/-
  Package twig: Read.
-/
import Derived.Test.YthihjkdankbnjaaGreatX3a
import Derived.Test.YthihjkdankbnjaaGreatShelf
import Derived.Test.YthihjkdankbnjaaGreatGkFrom
import Derived.Test.YthihjkdankbnjaaGreatGkByte
import Derived.Test.YthihjkdankbnjaaGreatGkHalf
import Derived.Test.YthihjkdankbnjaaGreatGkText
import Derived.Test.YthihjkdankbnjaaGreatGkEnd
import Derived.Deep.Cut
namespace Go.Proofs.YthihjkdankbnjaaGreat.P10
open Go Go.RowKit Go.Lib Go.Proofs.YthihjkdankbnjaaGreat.PK
open Go.Proofs.YthihjkdankbnjaaGreat.P0 (low str str_size low_length size_app text_ext text_app str_list same_true same_false)
open Go.Proofs.YthihjkdankbnjaaGreat.PP (GetAt getNum getTxt getStr getFin Fr getFrom_any getByte_any getHalf_any getText_any getEnd_any)

theorem sClone_any (w : World) (s : ByteArray) (hs : s.size ≤ 281474976710656) : Calls Tryz.prog 33 #[.string s] w fun e w' => e = .returned (.string s) ∧ Below w.heap.size w w' := by
  have H := fun w' : World => Lib.hid (Tryz.stringslite_Clone s w' hs)
  go_enter Tryz.func33, Tryz.ntmps33
  go_wp2_with (go_at_call 82; refine (H _).out.mono ?_; rintro e w' ⟨rfl, hb⟩)
  go_ret
  exact ⟨rfl, hb⟩
theorem owns_frP {G base n : Nat} {wr w' : World} {v : Value} {xs : List Value} (h : wr.ownsRow base 50 2 v n xs) (hb : G < base) (hf : Fr G wr w') : w'.ownsRow base 50 2 v n xs := by
  refine ⟨h.1, h.2.imp id fun ⟨g, cap, cur, h1, h2, h3, h4⟩ => ⟨g, cap, cur, h1, h2, hf.keeps g _ _ _ h3 (by decide) (by omega), h4⟩⟩
/-- a text has at most 65535 bytes -/
theorem getTxt_small (s : ByteArray) (e : Int) : (getTxt s e).1.size ≤ 65535 := by
  have hn : (getNum 2 s e).1 ≤ 65535 := by
    unfold PP.getNum
    by_cases he : e = 0
    · rw [if_pos he]
      by_cases hk : 2 ≤ s.size
      · rw [if_pos hk]
        have h2 := PP.num_lt (s.data.toList.take 2)
        have h3 : 256 ^ (s.data.toList.take 2).length ≤ 256 ^ 2 := Nat.pow_le_pow_right (by omega) (by simp only [List.length_take]; omega)
        have e2 := PP.wrap_small (PP.num (s.data.toList.take 2)) (by omega)
        simp only [e2]
        omega
      · rw [if_neg hk]; simp
    · rw [if_neg he]; simp
  unfold PP.getTxt
  generalize getNum 2 s e = q at *
  obtain ⟨n, B, f⟩ := q
  simp only at hn ⊢
  unfold PP.getStr
  have h0 : (⟨#[]⟩ : ByteArray).size = 0 := rfl
  by_cases hf : f = 0
  · rw [if_pos hf]
    by_cases hm : n < 0
    · rw [if_pos hm]; simp only; omega
    · rw [if_neg hm]
      by_cases hk : n ≤ B.size
      · rw [if_pos hk]
        simp only [ByteArray.size_extract]
        omega
      · rw [if_neg hk]; simp only; omega
  · rw [if_neg hf]; simp only; omega
/-- the reader at block G, the row of items read so far -/
structure PdS (w : World) (G : Nat) (s : ByteArray) (e : Int) (v : Value) (l : List It) (wr : World) : Prop where
  g : GetAt wr G s e
  row : wr.ownsRow (G + 1) 50 2 v l.length (cellsI l).flatten
  lo : w.heap.size ≤ G
  below : Below w.heap.size w wr
theorem PdS.lt {w wr : World} {G : Nat} {s : ByteArray} {e : Int} {v : Value} {l : List It} (h : PdS w G s e v l wr) : G < wr.heap.size := lt_of_block h.g
theorem PdS.call {w wr w' : World} {G : Nat} {s s' : ByteArray} {e e' : Int} {v : Value} {l : List It} (h : PdS w G s e v l wr) (hg : GetAt w' G s' e') (hf : Fr G wr w') : PdS w G s' e' v l w' :=
  ⟨hg, owns_frP h.row (Nat.lt_succ_self _) hf, h.lo, h.below.trans (hf.below.mono h.lo)⟩
theorem PdS.over {w wr w' : World} {G : Nat} {s : ByteArray} {e : Int} {v : Value} {l : List It} (h : PdS w G s e v l wr) (k : Below wr.heap.size wr w') : PdS w G s e v l w' :=
  ⟨(k.block G h.lt).trans h.g, owns_below h.row k, h.lo, thenBelow h.below k⟩
theorem cellsI_snoc2 (l : List It) (c : It) : (cellsI (l ++ [c])).flatten = (cellsI l).flatten ++ [.string c.key, .int .i64 c.page] := by
  simp [cellsI, It.cells]
theorem PdS.grown {w wr w' : World} {G : Nat} {s : ByteArray} {e : Int} {v v' : Value} {l : List It} (h : PdS w G s e v l wr) (c : It) (hown : w'.ownsRow (G + 1) 50 2 v' (l.length + 1) ((cellsI l).flatten ++ [.string c.key, .int .i64 c.page])) (hg : wr.grownBy w' v.ownBlock) : PdS w G s e v' (l ++ [c]) w' := by
  refine ⟨?_, ?_, h.lo, h.below.grown hg h.below.size (fun k hk => ?_)⟩
  · exact (hg.block G h.lt (fun e => by have := (h.row.lt G e.symm).1; omega)).trans h.g
  · rw [cellsI_snoc2, List.length_append, List.length_singleton]
    exact hown
  · have := (h.row.lt k hk).1
    have := h.lo
    omega
set_option maxRecDepth 100000 in
set_option maxHeartbeats 8000000 in
theorem read_any (w : World) (b : ByteArray) (hb : b.size ≤ 100000) :
    Calls Tryz.prog 9 #[.string b] w fun e w' => ∃ v, e = .returned (.tuple #[v, .int .i64 (readP b).2]) ∧ OwnI w.heap.size w' v (readP b).1 ∧ Below w.heap.size w w' := by
  obtain ⟨i0, hi0, hz0, hz1, hz2⟩ := info_parts infoEKids
  have HCl := Lib.hid (fun W s h => sClone_any W s h)
  have HF := Lib.hid (fun W => getFrom_any W b)
  have HN := Lib.hid (fun W G s e (h : GetAt W G s e) => getByte_any W G s e h)
  have HN2 := Lib.hid (fun W G s e (h : GetAt W G s e) => getHalf_any W G s e h)
  have HT := Lib.hid (fun W G s e (h : GetAt W G s e) => getText_any W G s e h)
  have HE := Lib.hid (fun W G s e (h : GetAt W G s e) => getEnd_any W G s e h)
  obtain ⟨n1, n2⟩ := gnum1_range b 0
  obtain ⟨n, hn⟩ : ∃ n, n = (getNum 1 b 0).1.toNat := ⟨_, rfl⟩
  have hn1 : (getNum 1 b 0).1 = (n : Int) := by omega
  have hn2 : n ≤ 255 := by omega
  have HAl : Hid (allP b = runP ((getNum 1 b 0).2.1, (getNum 1 b 0).2.2, []) n) := by rw [hn]; rfl
  have HN0 := Lib.hid (fun W G (h : GetAt W G b 0) => getByte_any W G b 0 h)
  rw [hn1] at HN0
  clear hn hn1 n1 n2
  go_enter Tryz.func9, Tryz.ntmps9
  go_wp2_with (first
    | (go_at_call 30; (with_reducible refine (HF.out _).mono ?_); rintro e w2 ⟨rfl, hg, hbl, -⟩; have HG2 := Lib.hid hg; have HB2 := Lib.hid hbl; clear hg hbl)
    | (go_at_call 31; (with_reducible refine (HN0.out _ _ HG2.out).mono ?_); rintro e w3 ⟨rfl, hg, hf⟩; have S0 := Lib.hid (⟨hg, World.ownsRow_nil _ _ _ _, Nat.le_refl _, HB2.out.trans hf.below⟩ : PdS w w.heap.size (getNum 1 b 0).2.1 (getNum 1 b 0).2.2 (.slice none 0 0) [] w3); clear hg hf))
  obtain ⟨G, hG⟩ : ∃ G, G = w.heap.size := ⟨_, rfl⟩
  rw [← hG] at S0 ⊢
  obtain ⟨B0, hB0⟩ : ∃ B0, B0 = (getNum 1 b 0).2.1 := ⟨_, rfl⟩
  obtain ⟨e0, he0⟩ : ∃ e0, e0 = (getNum 1 b 0).2.2 := ⟨_, rfl⟩
  rw [← hB0, ← he0] at S0 HAl
  have HGl : Hid (w.heap.size = G) := hG.symm
  clear HN0 HB2 HG2 hB0 he0 hG
  go_loopw [5, 13] (fun vl vi wr => ∃ i : Nat, i ≤ n ∧ vi = .int .i64 i ∧ Hid (PdS w G (runP (B0, e0, []) i).1 (runP (B0, e0, []) i).2.1 vl (runP (B0, e0, []) i).2.2 wr)) (fun _ vi _ => n - (RowKit.intOf vi).toNat)
  case atStart => exact ⟨0, Nat.zero_le _, rfl, S0⟩
  case round =>
    clear S0
    obtain ⟨i, hi, rfl, H⟩ := hrel
    have hLl := runP_len (B0, e0, []) i
    obtain ⟨⟨s, e, L⟩, hS⟩ : ∃ s, s = runP (B0, e0, []) i := ⟨_, rfl⟩
    rw [← hS] at H hLl
    simp only [List.length_nil, Nat.zero_add] at H hLl
    replace hLl : L.length ≤ i := Nat.le_of_eq hLl
    have HS := Lib.hid hS
    clear hS
    by_cases hlt : i < n
    · have k1 : decide ((i : Int) < (n : Int)) = true := decide_eq_true (by omega)
      have k1' : decide (i < n) = true := decide_eq_true hlt
      have HSt : Hid (runP (B0, e0, []) (i + 1) = stepP (s, e, L)) := by
        show stepP (runP (B0, e0, []) i) = _
        rw [HS.out]
      have HNk := Lib.hid (HN2.out _ _ _ _ H.out.g)
      obtain ⟨⟨k, s1, e1⟩, hk⟩ : ∃ q, q = getNum 2 s e := ⟨_, rfl⟩
      rw [← hk] at HNk
      simp only at HNk
      obtain ⟨⟨x, s2, e2⟩, hx⟩ : ∃ q, q = getTxt s1 e1 := ⟨_, rfl⟩
      have HCx : Hid (∀ W, Calls Tryz.prog 33 #[.string x] W fun e w' => e = .returned (.string x) ∧ Below W.heap.size W w') := fun W => HCl.out W x (by
        have := getTxt_small s1 e1
        rw [← hx] at this
        simp only at this
        omega)
      have HFn : Hid (runP (B0, e0, []) (i + 1) = (s2, e2, L ++ [⟨x, k⟩])) := by
        show runP (B0, e0, []) (i + 1) = (s2, e2, L ++ [⟨x, k⟩])
        rw [HSt.out]
        unfold stepP
        simp only [← hk, ← hx]
      have HT1 : Hid (∀ W, GetAt W G s1 e1 → Calls Tryz.prog 34 #[.pointer (some ⟨G, 0, none⟩)] W fun r w' => r = .returned (.string x) ∧ GetAt w' G s2 e2 ∧ Fr G W w') := fun W h => by
        have := HT.out W _ _ _ h
        rw [← hx] at this
        exact this
      clear hk hx HSt HT HN HN2 HE HCl
      have hLb : L.length ≤ 255 := by omega
      obtain ⟨va, vn, vc, rfl⟩ := owns_shape H.out.row
      go_wp2_with (first
        | (go_at_call 32; (with_reducible refine (HNk.out).mono ?_); rintro e w2 ⟨rfl, hg, hf⟩; have X1 := Lib.hid (H.out.call hg hf); clear hg hf)
        | (go_at_call 34; (with_reducible refine (HT1.out _ X1.out.g).mono ?_); rintro e w4 ⟨rfl, hg, hf⟩; have X3 := Lib.hid (X1.out.call hg hf); clear hg hf)
        | (go_at_call 33; (with_reducible refine (HCx.out _).mono ?_); rintro e w5 ⟨rfl, hb5⟩; have X5 := Lib.hid (X3.out.over hb5); clear hb5)
        | (at_builtin; refine wpList_append_own _ rfl _ _ 22 rfl (G + 1) 50 i0 (Value.agg #[.string ⟨#[]⟩, .int .i64 0]) 2 24 Tryz.underlying22 hi0 hz0 hz1 hz2 rfl (by decide) _ L.length (cellsI L).flatten rfl (X5.out.row.alloc _) ⟨w5.heap.size, 0, none⟩ 1 1 [.string x, .int .i64 k] rfl rfl ?c1 ?c2 ?c3 ?c4 ?c5 ?_))
      case c1 => simpa using cells_new w5 [.string x, .int .i64 k] 50
      case c2 => exact kKids.one _ ⟨_, _, rfl⟩
      case c3 => unfold maxLen; omega
      case c4 => omega
      case c5 => have := X5.out.lt; simp; omega
      intro v' w6 hown' hgrow _
      have S5 := Lib.hid ((X5.out.over (below_new _ _)).grown ⟨x, k⟩ hown' hgrow)
      clear hown' hgrow
      go_wp2
      go_roundw
      case rel => exact ⟨i + 1, by omega, by go_num, by rw [HFn.out]; exact S5⟩
      case measure => simp [RowKit.intOf]; omega
    · have e9 : i = n := by omega
      subst e9
      have k1 : decide ((i : Int) < (i : Int)) = false := decide_eq_false (by omega)
      have HAn : Hid (allP b = (s, e, L)) := by
        show allP b = (s, e, L)
        rw [HAl.out, ← HS.out]
      have hLb : L.length ≤ 255 := by omega
      clear HS HAl HN HN2 HT HCl
      obtain ⟨va, vn, vc, rfl⟩ := owns_shape H.out.row
      have HEn := Lib.hid (HE.out _ _ _ _ H.out.g)
      have HOw : Hid (∀ W', Fr G wr W' → OwnI w.heap.size W' (.slice va vn vc) L) := fun W' hf => ⟨owns_lo (owns_frP H.out.row (Nat.lt_succ_self _) hf) (by have := H.out.lo; omega), by omega⟩
      have HBl : Hid (∀ W', Fr G wr W' → Below w.heap.size w W') := fun W' hf => H.out.below.trans (hf.below.mono H.out.lo)
      clear HE
      by_cases hf0 : getFin s e = 0
      · have hsum : sumI L ≤ 1000000 := by
          have h9 := allP_sum (b := b) (by rw [HAn.out]; exact hf0)
          rw [HAn.out] at h9
          exact Nat.le_trans h9 (by omega)
        rw [hf0] at HEn
        have HLy : Hid (∀ W, ItsIn W (.slice va vn vc) L → Calls Tryz.prog 7 #[.slice va vn vc] W fun e w' => e = .returned (.tuple #[.string (layR L).1, .int .i64 (layR L).2]) ∧ Below W.heap.size W w') := fun W h => lay_any W _ L h hsum
        obtain ⟨⟨S, f⟩, hly⟩ : ∃ s, s = layR L := ⟨_, rfl⟩
        have HRR : readP b = if f = 0 ∧ S = b then (L, 0) else ([], 6) := by
          unfold readP
          rw [HAn.out]
          simp only
          rw [if_pos hf0, ← hly]
        rw [← hly] at HLy
        simp only at HLy
        clear hly hf0 hsum
        by_cases hf : f = 0
        · have m1 : (f != 0) = false := by simp [hf]
          by_cases hS : S = b
          · have m2 : (b.toList == S.toList) = true := same_true hS.symm
            have HRd := Lib.hid (HRR.trans (if_pos ⟨hf, hS⟩))
            clear hf hS HRR
            go_wp2_with (first
              | (go_at_call 35; (with_reducible refine (HEn.out).mono ?_); rintro e w6 ⟨rfl, hf6⟩; have I6 := Lib.hid (HOw.out _ hf6); have B6 := Lib.hid (HBl.out _ hf6); clear hf6)
              | (go_at_call 7; (with_reducible refine (HLy.out _ I6.out.its).mono ?_); rintro e w7 ⟨rfl, hb7⟩; have I7 := Lib.hid (I6.out.below hb7); have B7 := Lib.hid (thenBelow B6.out hb7); clear hb7))
            go_ret2
            exact ⟨_, by rw [HRd.out]; rfl, by rw [HRd.out]; exact I7.out, B7.out⟩
          · have m2 : (b.toList == S.toList) = false := same_false (fun q => hS q.symm)
            have HRd := Lib.hid (HRR.trans (if_neg (fun h => hS h.2)))
            clear hf hS HRR
            go_wp2_with (first
              | (go_at_call 35; (with_reducible refine (HEn.out).mono ?_); rintro e w6 ⟨rfl, hf6⟩; have I6 := Lib.hid (HOw.out _ hf6); have B6 := Lib.hid (HBl.out _ hf6); clear hf6)
              | (go_at_call 7; (with_reducible refine (HLy.out _ I6.out.its).mono ?_); rintro e w7 ⟨rfl, hb7⟩; have B7 := Lib.hid (thenBelow B6.out hb7); clear hb7))
            go_ret2
            exact ⟨_, by rw [HRd.out]; rfl, by rw [HRd.out]; exact OwnI.nil _ _, B7.out⟩
        · have m1 : (f != 0) = true := by simpa using hf
          have HRd := Lib.hid (HRR.trans (if_neg (fun h => hf h.1)))
          clear hf HRR
          go_wp2_with (first
            | (go_at_call 35; (with_reducible refine (HEn.out).mono ?_); rintro e w6 ⟨rfl, hf6⟩; have I6 := Lib.hid (HOw.out _ hf6); have B6 := Lib.hid (HBl.out _ hf6); clear hf6)
            | (go_at_call 7; (with_reducible refine (HLy.out _ I6.out.its).mono ?_); rintro e w7 ⟨rfl, hb7⟩; have B7 := Lib.hid (thenBelow B6.out hb7); clear hb7))
          go_ret2
          exact ⟨_, by rw [HRd.out]; rfl, by rw [HRd.out]; exact OwnI.nil _ _, B7.out⟩
      · have HRR : readP b = ([], getFin s e) := by
          unfold readP
          rw [HAn.out]
          simp only
          rw [if_neg hf0]
        have m1 : (getFin s e != 0) = true := by simpa using hf0
        obtain ⟨F, hF⟩ : ∃ F, F = getFin s e := ⟨_, rfl⟩
        rw [← hF] at HEn m1 HRR
        have HRd := Lib.hid HRR
        clear hF HRR hf0
        go_wp2_with (go_at_call 35; (with_reducible refine (HEn.out).mono ?_); rintro e w6 ⟨rfl, hf6⟩; have B6 := Lib.hid (HBl.out _ hf6); clear hf6)
        go_ret2
        exact ⟨_, by rw [HRd.out]; rfl, by rw [HRd.out]; exact OwnI.nil _ _, B6.out⟩

end Go.Proofs.YthihjkdankbnjaaGreat.P10
