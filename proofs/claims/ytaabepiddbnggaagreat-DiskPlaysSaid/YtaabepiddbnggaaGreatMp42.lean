/-
  Texts of the proof of SaidPlays, side by side: BbK, BbV, BbT.
-/
import Derived.Test.YtaabepiddbnggaaGreatMp41
import Derived.Deep.AppendLies
import Derived.Deep.Cut
import Derived.Deep.RegionLaw
/-
  The book, part 10: are lists marked?
-/
namespace Go.Proofs.YtaabepiddbnggaaGreat.PB
open Go Go.RowKit Go.Lib

/-- a list of lists of texts: what the value v reads as -/
def LL (w : World) (v : Value) (us : List Value) (ls : List (List ByteArray)) : Prop :=
  ∃ g cap, v = .slice (some ⟨g, 0, none⟩) ls.length cap ∧ g < w.heap.size ∧ us.length = ls.length ∧ (∀ (i : Nat) (u : Value), us[i]? = some u → w.cell? ⟨g, i, none⟩ = some u) ∧ ∀ (i : Nat) (u : Value) (l : List ByteArray), us[i]? = some u → ls[i]? = some l → TextsIn w u l
theorem LL.below {w w' : World} {v : Value} {us : List Value} {ls : List (List ByteArray)} (h : LL w v us ls) (hb : Below w.heap.size w w') : LL w' v us ls := by
  obtain ⟨g, cap, h1, h2, h3, h4, h5⟩ := h
  exact ⟨g, cap, h1, Nat.lt_of_lt_of_le h2 hb.size, h3, fun i u hu => by rw [hb.cell (p := ⟨g, i, none⟩) h2]; exact h4 i u hu, fun i u l hu hl => (h5 i u l hu hl).below hb⟩

set_option maxRecDepth 100000 in
set_option maxHeartbeats 2000000 in
theorem markedTexts_some (w : World) (v : Value) (us : List Value) (ls : List (List ByteArray)) (h : LL w v us ls) (hm : ∀ (i : Nat) (l : List ByteArray), ls[i]? = some l → l.length ≤ 2000 ∧ l = marksL i 0 l.length) (few : ls.length ≤ 100) :
    Calls Tryz.prog 77 #[v] w fun r w' => r = .returned (.bool true) ∧ Below w.heap.size w w' := by
  have HB := Lib.hid h
  obtain ⟨g, cap, rfl, hgl, hul, -, -⟩ := h
  have HC := Lib.hid (show ∀ (W : World) (i : Nat) (u : Value) (l : List ByteArray), LL W (.slice (some ⟨g, 0, none⟩) ls.length cap) us ls → us[i]? = some u → ls[i]? = some l → W.cell? ⟨g, i, none⟩ = some u ∧ TextsIn W u l from fun W i u l hW hu hl => by
    obtain ⟨g', cap', e, _, _, h4, h5⟩ := hW
    obtain rfl : g = g' := by simpa using (Value.slice.inj e).1
    exact ⟨h4 i u hu, h5 i u l hu hl⟩)
  have HM := Lib.hid hm
  clear hm
  go_enter Tryz.func77, Tryz.ntmps77
  go_wp2
  go_loopw [3] (fun vi wr => ∃ i : Nat, i ≤ ls.length ∧ vi = .int .i64 i ∧ Hid (LL wr (.slice (some ⟨g, 0, none⟩) ls.length cap) us ls) ∧ Hid (Below w.heap.size w wr)) (fun vi _ => ls.length - (RowKit.intOf vi).toNat)
  case atStart => exact ⟨0, Nat.zero_le _, rfl, HB, Below.refl _ _⟩
  case round =>
    obtain ⟨i, hi, rfl, HW, HL⟩ := hrel
    by_cases hil : i < ls.length
    · have b1 : decide ((i : Int) < (ls.length : Int)) = true := decide_eq_true (by omega)
      have b1' : decide (i < ls.length) = true := decide_eq_true hil
      have j0 : (0 : Int) ≤ (i : Int) := by omega
      have j1 : (i : Int) < (ls.length : Int) := by omega
      obtain ⟨u, hu⟩ : ∃ u, us[i]? = some u := ⟨_, List.getElem?_eq_getElem (by omega)⟩
      obtain ⟨l, hl⟩ : ∃ l, ls[i]? = some l := ⟨_, List.getElem?_eq_getElem hil⟩
      obtain ⟨hl1, hl2⟩ := HM.out i l hl
      obtain ⟨-, ht⟩ := HC.out wr i u l HW.out hu hl
      obtain ⟨ao, cp, rfl, -⟩ := ht
      obtain ⟨n, hn⟩ : ∃ n, n = l.length := ⟨_, rfl⟩
      rw [← hn] at hl1 hl2
      have HX := Lib.hid (show ∀ W, LL W (.slice (some ⟨g, 0, none⟩) ls.length cap) us ls → W.cell? ⟨g, i, none⟩ = some (.slice ao n cp) from fun W hW => by rw [hn]; exact (HC.out W i _ l hW hu hl).1)
      have HTx := Lib.hid (show ∀ W, LL W (.slice (some ⟨g, 0, none⟩) ls.length cap) us ls → TextsIn W (.slice ao n cp) l from fun W hW => by rw [hn]; exact (HC.out W i _ l hW hu hl).2)
      have MK := fun W => Lib.hid (marks0 W i n (by omega) (by omega))
      have HS := Lib.hid (show ∀ W W2 a c, LL W (.slice (some ⟨g, 0, none⟩) ls.length cap) us ls → (tRow (.slice a n c) (marksL i 0 n)).At W2 W.heap.size → Below W.heap.size W W2 → Calls Tryz.prog 13 #[.slice ao n cp, .slice a n c] W2 fun e w' => e = .returned (.bool true) ∧ Below W2.heap.size W2 w' from fun W W2 a c hW hr hb => by
        have q := sameTexts_any W2 _ _ l (marksL i 0 n) ((HTx.out W hW).below hb) (tRow_texts hr (by rw [marksL_length]; omega) (fun k hk => by rw [marksL_size]; omega))
        rwa [decide_eq_true hl2] at q)
      have HWd := Lib.hid (HW.out.below ((Below.refl _ _).drew))
      have HLd := Lib.hid (thenBelow HL.out ((Below.refl _ _).drew))
      clear hu hl hl2 hn HC HB HM
      go_wp2
      go_region_held3 (fun W => W.cell? ⟨g, i, none⟩ = some (.slice ao n cp)) (first | exact HX.out _ HWd.out | exact HX.out _ HW.out | exact HX.out _ (by assumption))
        ((first
          | (go_at_call 121; (with_reducible refine (MK _).out.mono ?_); rintro e w2 ⟨am, cm, rfl, -, hrm, hb⟩; have hW2 := HWd.out.below hb; have HL2 := Lib.hid (thenBelow HLd.out hb); have HS2 := Lib.hid (HS.out _ _ am cm HWd.out hrm hb); clear hrm hb)
          | (go_at_call 13; (with_reducible refine HS2.out.mono ?_); rintro e w3 ⟨rfl, hb⟩; have hW3 := hW2.below hb; have HL3 := Lib.hid (thenBelow HL2.out hb); clear hb)))
      all_goals
        have HW3 := Lib.hid hW3
        clear hW3 hW2
        go_wp2
        go_roundw
        case rel => exact ⟨i + 1, by omega, by go_num, HW3, HL3⟩
        case measure => simp [RowKit.intOf]; omega
    · have b1 : decide ((i : Int) < (ls.length : Int)) = false := decide_eq_false (by omega)
      have b1' : decide (i < ls.length) = false := decide_eq_false hil
      go_wp2
      go_ret
      exact ⟨rfl, HL.out⟩

end Go.Proofs.YtaabepiddbnggaaGreat.PB

/-
  The book, part 11: one more list. Regions taken by hand; frames.
-/
namespace Go.Proofs.YtaabepiddbnggaaGreat.PB
open Go Go.RowKit Go.Lib

/-- the i-th operation, written out -/
theorem op_at {ops : Array Oper} {i : Nat} {o : Oper} {rest : List Oper} (h : ops.toList.drop i = o :: rest) : ops[i]? = some o := by
  have := congrArg List.head? h
  rw [List.head?_drop] at this
  simpa using this
section
variable {P : Program} {ops : Array Oper} {Q : Exit → Act → World → Prop} {md : Region.Mode} {S : World → Prop}
/-- an operation that is wanted and only reads is taken first -/
theorem take_w (i : Nat) {oi : Oper} {rest : List Oper} {v : Value} {fuel : Nat} {listed : Array Bool} {a : Act} {w : World} (h0 : ops.toList.drop i = oi :: rest)
    (hs : Region.noSelect ops = true) (hf : Region.free md ops listed i = true) (hr : (Region.ready md ops listed).contains i = true)
    (hQ : ∀ c a w, Q (.panic c) (a.put oi.dst v) w → Q (.panic c) a w) (hw : Region.wanted oi (yielded ops a.tmps) = true) (hv : ∀ w, S w → (execOp a.eval oi).run P w = .ok (.value v) w) (hS : S w)
    (h : wpAnyH P md ops Q S fuel (listed.setIfInBounds i true) (a.put oi.dst v) w) : wpAnyH P md ops Q S (fuel + 1) listed a w :=
  wpAnyH_take (op_at h0) hs hf hr hQ (.inl ⟨hw, hv⟩) hS h
/-- an operation that is not wanted is passed by -/
theorem take_s (i : Nat) {oi : Oper} {rest : List Oper} {fuel : Nat} {listed : Array Bool} {a : Act} {w : World} (h0 : ops.toList.drop i = oi :: rest)
    (hs : Region.noSelect ops = true) (hf : Region.free md ops listed i = true) (hr : (Region.ready md ops listed).contains i = true)
    (hQ : ∀ c a w, Q (.panic c) (a.put oi.dst undef) w → Q (.panic c) a w) (hw : Region.wanted oi (yielded ops a.tmps) = false) (hS : S w)
    (h : wpAnyH P md ops Q S fuel (listed.setIfInBounds i true) (a.put oi.dst undef) w) : wpAnyH P md ops Q S (fuel + 1) listed a w :=
  wpAnyH_take (op_at h0) hs hf hr hQ (.inr ⟨hw, rfl⟩) hS h
/-- the one operation that may come up is carried out -/
theorem do_one (i : Nat) {o : Oper} {rest : List Oper} {fuel : Nat} {listed : Array Bool} {a : Act} {w : World} (h0 : ops.toList.drop i = o :: rest)
    (hr : Region.ready md ops listed = [i]) (hw : Region.wanted o (yielded ops a.tmps) = true)
    (h : ∀ K' : Act → World → Prop, Hid (∀ a w, S w → (S w → wpAnyH P md ops Q S fuel (listed.setIfInBounds i true) a w) → K' a w) → Oper.wp P o a w K' Q) : wpAnyH P md ops Q S (fuel + 1) listed a w :=
  wpAnyH_ready hr (by simp) (AllReadyH.cons (op_at h0) (fun K' hK => by rw [if_pos hw]; exact h K' hK) AllReadyH.nil)
end

/-- only blocks of S may have changed -/
structure FrB (S : Nat → Prop) (w w' : World) : Prop where
  os : w'.os = w.os
  tape : w'.tape = w.tape
  output : w'.output = w.output
  size : w.heap.size ≤ w'.heap.size
  block : ∀ k, k < w.heap.size → ¬ S k → w'.heap[k]? = w.heap[k]?
theorem FrB.of_below {S : Nat → Prop} {w w' : World} (h : Below w.heap.size w w') : FrB S w w' := ⟨h.os, h.tape, h.output, h.size, fun k hk _ => h.block k hk⟩
theorem FrB.trans {S : Nat → Prop} {a b c : World} (h : FrB S a b) (k : FrB S b c) : FrB S a c := ⟨k.os.trans h.os, k.tape.trans h.tape, k.output.trans h.output, Nat.le_trans h.size k.size, fun i hi hn => (k.block i (Nat.lt_of_lt_of_le hi h.size) hn).trans (h.block i hi hn)⟩
theorem FrB.grown {S : Nat → Prop} {w w' : World} {r : Option Nat} (h : w.grownBy w' r) (hr : ∀ k, r = some k → S k) : FrB S w w' := ⟨h.os, h.tape, h.output, h.size, fun k hk hn => h.block k hk (fun e => hn (hr k e.symm))⟩
theorem FrB.set {S : Nat → Prop} (w : World) (b j : Nat) (u : Value) (hb : S b) : FrB S w (w.setCell ⟨b, j, none⟩ u) := FrB.grown (setCell_grownBy w b j u) (fun k e => by cases e; exact hb)

theorem bl_set (b : Nat) (cs : List Value) (t : TypeId) (j : Nat) (u : Value) : (⟨(bl b cs t).v, (bl b cs t).e, (bl b cs t).size, (bl b cs t).n, (bl b cs t).xs.set j u⟩ : Row) = bl b (cs.set j u) t := by
  unfold bl; simp
/-- the first row has grown by a list -/
theorem bk_grow1 {w0 w wA w3 : World} {X Z : List Row} {b : Nat} {tv cv tv' : Value} {us : List Value} {u : Value} (h : Rws w0 (X ++ (bl b (bookCells tv cv) 44 :: vRow tv us :: Z)) w) (hb : Below w.heap.size w wA)
    (hv : w3.ownsRow w0.heap.size 51 1 tv' (us.length + 1) (us ++ [u])) (hg : wA.grownBy w3 tv.ownBlock) (hat : tv'.ownBlock = tv.ownBlock ∨ ∀ g, tv'.ownBlock = some g → wA.heap.size ≤ g) :
    Rws w0 (X ++ (bl b (bookCells tv cv) 44 :: vRow tv' (us ++ [u]) :: Z)) w3 := by
  have h1 := h.over hb
  have e1 : X ++ (bl b (bookCells tv cv) 44 :: vRow tv us :: Z) = (X ++ [bl b (bookCells tv cv) 44]) ++ vRow tv us :: Z := by simp
  rw [e1] at h1
  have h2 := h1.grown hg hv hat
  have e2 : (⟨tv', (vRow tv us).e, (vRow tv us).size, us.length + 1, us ++ [u]⟩ : Row) = vRow tv' (us ++ [u]) := by unfold vRow; simp
  rw [e2] at h2
  have e3 : (X ++ [bl b (bookCells tv cv) 44]) ++ vRow tv' (us ++ [u]) :: Z = X ++ bl b (bookCells tv cv) 44 :: (vRow tv' (us ++ [u]) :: Z) := by simp
  rw [e3] at h2
  exact h2
/-- a cell of the book is set -/
theorem bk_store {w0 w : World} {X Z : List Row} {b : Nat} {cs : List Value} (h : Rws w0 (X ++ (bl b cs 44 :: Z)) w) (j : Nat) (u : Value) (hj : j < cs.length) :
    Rws w0 (X ++ (bl b (cs.set j u) 44 :: Z)) (w.setCell ⟨b, j, none⟩ u) := by
  have h3 := h.set (g := b) rfl j u (by show j < cs.length * 1; omega)
  rw [bl_set] at h3
  exact h3
/-- the second row has grown -/
theorem bk_grow2 {w0 w wA w3 : World} {X Y Z : List Row} {b : Nat} {tv cv cv' : Value} {cs : List Value} {c : Value} (h : Rws w0 (X ++ (bl b (bookCells tv cv) 44 :: (Y ++ vRow cv cs :: Z))) w) (hb : Below w.heap.size w wA)
    (hv : w3.ownsRow w0.heap.size 51 1 cv' (cs.length + 1) (cs ++ [c])) (hg : wA.grownBy w3 cv.ownBlock) (hat : cv'.ownBlock = cv.ownBlock ∨ ∀ g, cv'.ownBlock = some g → wA.heap.size ≤ g) :
    Rws w0 (X ++ (bl b (bookCells tv cv) 44 :: (Y ++ vRow cv' (cs ++ [c]) :: Z))) w3 := by
  have h1 := h.over hb
  have e1 : X ++ (bl b (bookCells tv cv) 44 :: (Y ++ vRow cv cs :: Z)) = (X ++ bl b (bookCells tv cv) 44 :: Y) ++ vRow cv cs :: Z := by simp
  rw [e1] at h1
  have h2 := h1.grown hg hv hat
  have e2 : (⟨cv', (vRow cv cs).e, (vRow cv cs).size, cs.length + 1, cs ++ [c]⟩ : Row) = vRow cv' (cs ++ [c]) := by unfold vRow; simp
  rw [e2] at h2
  have e3 : (X ++ bl b (bookCells tv cv) 44 :: Y) ++ vRow cv' (cs ++ [c]) :: Z = X ++ bl b (bookCells tv cv) 44 :: (Y ++ vRow cv' (cs ++ [c]) :: Z) := by simp
  rw [e3] at h2
  exact h2
theorem rowsOf_snoc {us : List Value} {ls : List (List ByteArray)} (h : us.length = ls.length) (u : Value) (l : List ByteArray) : rowsOf (us ++ [u]) (ls ++ [l]) = rowsOf us ls ++ [tRow u l] := by
  unfold rowsOf
  rw [List.zipWith_append h]
  rfl
/-- the shapes of the two rows -/
theorem Bk.shapes {w0 w : World} {R : List Row} {b : Nat} {tv cv : Value} {us cs : List Value} {ls ms : List (List ByteArray)} (h : Bk w0 R b tv cv us cs ls ms w) : (∃ a c, tv = .slice a us.length c) ∧ ∃ a c, cv = .slice a cs.length c := by
  refine ⟨?_, ?_⟩
  · rcases h.tv_.slice with ⟨e, h1, _⟩ | ⟨g, cap, e, _⟩
    · exact ⟨none, 0, by have := e; rw [show us.length = 0 from h1]; exact this⟩
    · exact ⟨_, cap, e⟩
  · rcases h.cv_.slice with ⟨e, h1, _⟩ | ⟨g, cap, e, _⟩
    · exact ⟨none, 0, by have := e; rw [show cs.length = 0 from h1]; exact this⟩
    · exact ⟨_, cap, e⟩

end Go.Proofs.YtaabepiddbnggaaGreat.PB

/-
  The book, part 12: the walk of Texts.
-/
namespace Go.Proofs.YtaabepiddbnggaaGreat.PB
open Go Go.RowKit Go.Lib

theorem bk_done {w0 w : World} {R P Q : List Row} {cR uR B t c' : Row} (h : Rws w0 ((cR :: uR :: R) ++ (B :: ([t] ++ c' :: (P ++ Q)))) w) : Rws w0 (R ++ (B :: t :: c' :: ((P ++ [uR]) ++ (Q ++ [cR])))) w := by
  refine h.perm ?_
  have e1 : (cR :: uR :: R) ++ (B :: ([t] ++ c' :: (P ++ Q))) = cR :: (uR :: ((R ++ B :: t :: c' :: P) ++ Q)) := by simp
  have e2 : R ++ (B :: t :: c' :: ((P ++ [uR]) ++ (Q ++ [cR]))) = ((R ++ B :: t :: c' :: P) ++ uR :: Q) ++ [cR] := by simp
  rw [e1, e2]
  exact (List.Perm.cons _ List.perm_middle.symm).trans (List.perm_append_comm (l₁ := [cR]))
/-- a copy, its slice laid open -/
theorem copyTexts_row (w : World) (v : Value) (l : List ByteArray) (h : TextsIn w v l) (hl : l.length ≤ 1000000) :
    Calls Tryz.prog 49 #[v] w fun e w' => ∃ (a : Option Addr) (n c : Nat), e = .returned (.slice a n c) ∧ (tRow (.slice a n c) l).At w' w.heap.size ∧ Below w.heap.size w w' := by
  refine (copyTexts_any w v l h hl).mono fun e w' ⟨u, h1, h2, h3⟩ => ?_
  obtain ⟨a, n, c, rfl⟩ := owns_shape h2
  exact ⟨a, n, c, h1, h2, h3⟩
set_option maxRecDepth 100000 in
set_option maxHeartbeats 4000000 in
theorem bookTexts_any (w0 w : World) (R : List Row) (b : Nat) (tv cv u : Value) (us cs : List Value) (ls : List (List ByteArray)) (l : List ByteArray)
    (h : Bk w0 (tRow u l :: R) b tv cv us cs ls ls w) (hf : ls.length < 100) (hl : l.length ≤ 1000) (hs : ∀ s ∈ l, s.size ≤ 100000) (hu : ∃ (a : Option Addr) (n c : Nat), u = .slice a n c) :
    Calls Tryz.prog 12 #[.pointer (some ⟨b, 0, none⟩), u] w fun r w' => r = .returned (.tuple #[]) ∧ FrB (fun k => k = b ∨ tv.ownBlock = some k ∨ cv.ownBlock = some k) w w' ∧
      ∃ tv' cv' c, Bk w0 R b tv' cv' (us ++ [u]) (cs ++ [c]) (ls ++ [l]) (ls ++ [l]) w' := by
  obtain ⟨i1, hi1, hy0, hy1, hy2⟩ := info_parts infoTexts
  obtain ⟨⟨ta, tc, rfl⟩, ⟨ca, cc, rfl⟩⟩ := h.shapes
  obtain ⟨ua, un, uc, rfl⟩ := hu
  have hul := h.ul
  have hcl := h.cl
  have HB := Lib.hid h
  have c0 : w.cell? ⟨b, 0, none⟩ = some (.slice ta us.length tc) := by rw [cell_at h.cells]; rfl
  have HA := Lib.hid (h.over (below_new w (.cells #[.slice ua un uc] 51)))
  have hsz := h.rows.below.size
  have htx := tRow_texts (h.rows.own (tRow (.slice ua un uc) l) (by simp)) (by omega) (fun i hi => by have := hs _ (List.getElem_mem hi); omega)
  have HT := Lib.hid htx
  have HCp := fun W (hW : TextsIn W (.slice ua un uc) l) => Lib.hid (copyTexts_row W _ l hW (by omega))
  have b1 : decide ((us.length : Int) < 250) = true := decide_eq_true (by omega)
  have b1' : decide (us.length < 250) = true := decide_eq_true (by omega)
  have HUL := Lib.hid hul
  have HSH := Lib.hid h.short
  have HCL := Lib.hid hcl
  have u100 : us.length < 100 := by omega
  have c100 : cs.length < 100 := by omega
  clear h htx hul hcl
  go_enter Tryz.func12, Tryz.ntmps12
  go_wp2_with (at_builtin; refine wpList_append_lies _ rfl _ _ 34 rfl w0.heap.size 51 i1 (.slice none 0 0) 1 24 Tryz.underlying34 hi1 hy0 hy1 hy2 rfl (by decide) (.slice ta us.length tc) us.length us rfl ?d0 ⟨w.heap.size, 0, none⟩ 1 1 [.slice ua un uc] rfl rfl ?d1 ?d2 (by decide) ?d3 ?d4 ?d5 (w.heap.size + 1) ?d6 ?_)
  case d0 => exact HA.out.tv_
  case d1 => exact cell_one_new _ _ _
  case d2 => intro x hx; simp at hx; subst hx; rfl
  case d3 => unfold maxLen; omega
  case d4 => omega
  case d5 => simp; omega
  case d6 => simp
  intro g1 cap1 w3 hown3 hgrow3 hat3 hlt3
  have hat3' : (Value.slice (some ⟨g1, 0, none⟩) (us.length + 1) cap1).ownBlock = (Value.slice ta us.length tc).ownBlock ∨ ∀ g, (Value.slice (some ⟨g1, 0, none⟩) (us.length + 1) cap1).ownBlock = some g → (w.alloc (.cells #[.slice ua un uc] 51)).heap.size ≤ g := by
    rcases hat3 with e | e
    · exact .inl e.symm
    · refine .inr (fun g hg => ?_)
      have h9 : g1 = g := Option.some.inj hg
      rw [← h9, e]; simp
  have hG1 := bk_grow1 HB.out.rows (below_new w (.cells #[.slice ua un uc] 51)) hown3 hgrow3 hat3'
  have hbk1 := hG1.block (b := b) (cs := bookCells (.slice ta us.length tc) (.slice ca cs.length cc)) (t := 44) (by simp)
  have k0 : w3.cell? ⟨b, 0, none⟩ = some (.slice ta us.length tc) := by rw [cell_at hbk1]; rfl
  have k1 : w3.frozen? ⟨b, 0, none⟩ = false := free_at hbk1 0
  have HR1 := Lib.hid (bk_store hG1 0 (.slice (some ⟨g1, 0, none⟩) (us.length + 1) cap1) (by simp [bookCells]))
  have HF1 := Lib.hid (show FrB (fun k => k = b ∨ (Value.slice ta us.length tc).ownBlock = some k ∨ (Value.slice ca cs.length cc).ownBlock = some k) w (w3.setCell ⟨b, 0, none⟩ (.slice (some ⟨g1, 0, none⟩) (us.length + 1) cap1)) from
    ((FrB.of_below (below_new w (.cells #[.slice ua un uc] 51))).trans (FrB.grown hgrow3 (fun k e => .inr (.inl e)))).trans (FrB.set _ _ _ _ (.inl rfl)))
  clear hown3 hgrow3 hat3 hat3' hlt3 hG1 hbk1
  go_upto_region 2 with fail
  clear k0 k1 c0
  generalize hW4 : w3.setCell ⟨b, 0, none⟩ (.slice (some ⟨g1, 0, none⟩) (us.length + 1) cap1) = W4 at *
  have hR2 : Rws w0 ((tRow (.slice ua un uc) l :: R) ++ (bl b (bookCells (.slice (some ⟨g1, 0, none⟩) (us.length + 1) cap1) (.slice ca cs.length cc)) 44 :: ([vRow (.slice (some ⟨g1, 0, none⟩) (us.length + 1) cap1) (us ++ [.slice ua un uc])] ++ vRow (.slice ca cs.length cc) cs :: (rowsOf us ls ++ rowsOf cs ls)))) W4 := HR1.out
  have hd := (Below.refl W4.heap.size W4).drew
  have hR2d := hR2.over hd
  have HR2d := Lib.hid hR2d
  have hbk2 := hR2d.block (b := b) (cs := bookCells (.slice (some ⟨g1, 0, none⟩) (us.length + 1) cap1) (.slice ca cs.length cc)) (t := 44) (by simp)
  have c1 : W4.drew.cell? ⟨b, 1, none⟩ = some (.slice ca cs.length cc) := by rw [cell_at hbk2]; rfl
  have c1' : W4.cell? ⟨b, 1, none⟩ = some (.slice ca cs.length cc) := c1
  have hT4 := tRow_texts (hR2d.own (tRow (.slice ua un uc) l) (by simp)) (by omega) (fun i hi => by have := hs _ (List.getElem_mem hi); omega)
  have HT4 := Lib.hid hT4
  have HF1d := Lib.hid (HF1.out.trans (FrB.of_below hd))
  have hszd := hR2d.below.size
  have HCS := Lib.hid (show ∀ w5, Below W4.drew.heap.size W4.drew w5 → w5.cell? ⟨b, 1, none⟩ = some (.slice ca cs.length cc) from fun w5 hb5 => by
    rw [cell_at ((hR2d.over hb5).block (b := b) (cs := bookCells (.slice (some ⟨g1, 0, none⟩) (us.length + 1) cap1) (.slice ca cs.length cc)) (t := 44) (by simp))]; rfl)
  clear hR2 hR2d hbk2 hT4 hW4 HF1 HR1 HA HB HT
  have hend : ∀ (w5 : World) (xa : Option Addr) (xn xc : Nat), (tRow (.slice xa xn xc) l).At w5 W4.drew.heap.size → Below W4.drew.heap.size W4.drew w5 → ∀ g2 cap2 w6, w6.ownsRow w0.heap.size 51 1 (.slice (some ⟨g2, 0, none⟩) (cs.length + 1) cap2) (cs.length + 1) (cs ++ [.slice xa xn xc]) → (w5.alloc (.cells #[.slice xa xn xc] 51)).grownBy w6 (Value.slice ca cs.length cc).ownBlock → ((Value.slice ca cs.length cc).ownBlock = some g2 ∨ g2 = w5.heap.size + 1) → w6.cell? ⟨b, 1, none⟩ = some (.slice ca cs.length cc) ∧ w6.frozen? ⟨b, 1, none⟩ = false ∧ Hid (FrB (fun k => k = b ∨ (Value.slice ta us.length tc).ownBlock = some k ∨ (Value.slice ca cs.length cc).ownBlock = some k) w (w6.setCell ⟨b, 1, none⟩ (.slice (some ⟨g2, 0, none⟩) (cs.length + 1) cap2)) ∧ ∃ tv' cv' c, Bk w0 R b tv' cv' (us ++ [.slice ua un uc]) (cs ++ [c]) (ls ++ [l]) (ls ++ [l]) (w6.setCell ⟨b, 1, none⟩ (.slice (some ⟨g2, 0, none⟩) (cs.length + 1) cap2))) := by
    intro w5 xa xn xc hrow5 hb5 g2 cap2 w6 ho hg hat
    have hR5 := HR2d.out.add hb5 hrow5
    have hG := bk_grow2 (X := tRow (.slice xa xn xc) l :: (tRow (.slice ua un uc) l :: R)) hR5 (below_new w5 (.cells #[.slice xa xn xc] 51)) ho hg (by
      rcases hat with e | e
      · exact .inl e.symm
      · refine .inr (fun g hg => ?_)
        have h9 : g2 = g := Option.some.inj hg
        rw [← h9, e]; simp)
    have hbk := hG.block (b := b) (cs := bookCells (.slice (some ⟨g1, 0, none⟩) (us.length + 1) cap1) (.slice ca cs.length cc)) (t := 44) (by simp)
    refine ⟨by rw [cell_at hbk]; rfl, free_at hbk 1, ?_, ?_⟩
    · exact ((HF1d.out.trans (FrB.of_below hb5)).trans (FrB.of_below (below_new w5 (.cells #[.slice xa xn xc] 51)))).trans ((FrB.grown hg (fun k e => .inr (.inr e))).trans (FrB.set _ _ _ _ (.inl rfl)))
    · refine ⟨.slice (some ⟨g1, 0, none⟩) (us.length + 1) cap1, .slice (some ⟨g2, 0, none⟩) (cs.length + 1) cap2, .slice xa xn xc, ?_⟩
      have hS := bk_store hG 1 (.slice (some ⟨g2, 0, none⟩) (cs.length + 1) cap2) (by simp [bookCells])
      have hD := bk_done (R := R) (P := rowsOf us ls) (Q := rowsOf cs ls) hS
      rw [← rowsOf_snoc HUL.out, ← rowsOf_snoc HCL.out] at hD
      have hul := HUL.out
      have hcl := HCL.out
      have hl2 : ∀ m ∈ ls ++ [l], m.length ≤ 1000 ∧ ∀ s ∈ m, s.size ≤ 100000 := by
        intro m hm
        rcases List.mem_append.1 hm with q | q
        · exact HSH.out m q
        · simp at q; subst q; exact ⟨hl, hs⟩
      exact ⟨hD, by simp [hul], by simp [hcl], rfl, by simp; omega, hl2, hl2⟩
  go_region_law (first
    | (refine step_append_lies _ rfl (.tmp 24) (.tmp 27) 34 rfl w0.heap.size 51 i1 (.slice none 0 0) 1 24 Tryz.underlying34 hi1 hy0 hy1 hy2 rfl (by decide) (.slice ca cs.length cc) cs.length cs rfl hcvA ⟨w5.heap.size, 0, none⟩ 1 1 [.slice xa xn xc] rfl rfl (cell_one_new _ _ _) (by intro x hx; simp at hx; subst hx; rfl) (by decide) (by unfold maxLen; omega) (by omega) (by simp; omega) (w5.heap.size + 1) (by simp) ?_; intro g2 cap2 w6 hown6 hgrow6 hat6 hlt6; obtain ⟨q0, q1, HZ⟩ := HEND.out g2 cap2 w6 hown6 hgrow6 hat6)
    | (go_simp; go_at_call 49; (with_reducible refine (HCp _ HT4.out).out.mono ?_); rintro e w5 ⟨xa, xn, xc, rfl, hrow5, hb5⟩; have cc5 := HCS.out w5 hb5; have cc6 := HCS.out _ (thenBelow hb5 (below_new w5 (.cells #[.slice xa xn xc] 51))); have hcvA := ((HR2d.out.over hb5).over (below_new w5 (.cells #[.slice xa xn xc] 51))).own (vRow (.slice ca cs.length cc) cs) (by simp); have hs5 := hb5.size; have HEND : Hid (∀ g2 cap2 w6, w6.ownsRow w0.heap.size 51 1 (.slice (some ⟨g2, 0, none⟩) (cs.length + 1) cap2) (cs.length + 1) (cs ++ [.slice xa xn xc]) → (w5.alloc (.cells #[.slice xa xn xc] 51)).grownBy w6 (Value.slice ca cs.length cc).ownBlock → ((Value.slice ca cs.length cc).ownBlock = some g2 ∨ g2 = w5.heap.size + 1) → w6.cell? ⟨b, 1, none⟩ = some (.slice ca cs.length cc) ∧ w6.frozen? ⟨b, 1, none⟩ = false ∧ Hid (FrB (fun k => k = b ∨ (Value.slice ta us.length tc).ownBlock = some k ∨ (Value.slice ca cs.length cc).ownBlock = some k) w (w6.setCell ⟨b, 1, none⟩ (.slice (some ⟨g2, 0, none⟩) (cs.length + 1) cap2)) ∧ ∃ tv' cv' c, Bk w0 R b tv' cv' (us ++ [.slice ua un uc]) (cs ++ [c]) (ls ++ [l]) (ls ++ [l]) (w6.setCell ⟨b, 1, none⟩ (.slice (some ⟨g2, 0, none⟩) (cs.length + 1) cap2)))) := fun g2 cap2 w6 ho hg hat => hend w5 xa xn xc hrow5 hb5 g2 cap2 w6 ho hg hat))
  all_goals
    go_wp2
    go_end0
    exact ⟨rfl, HZ.out⟩

end Go.Proofs.YtaabepiddbnggaaGreat.PB
