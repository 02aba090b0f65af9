/-
  Texts of the proof of SaidPlays, side by side: BbG, BbH, BbW.
-/
import Derived.Test.YtaabepiddbnggaaGreatMp40
import Derived.ArgAppend
import Derived.Deep.DeepAppendRoom
import Derived.Maps.AppendAt
/-
  The book, part 7: lists of marks that grow, in place or anew. No walk but that of marks.
-/
namespace Go.Proofs.YtaabepiddbnggaaGreat.PB
open Go Go.RowKit Go.Lib

/-- a list of marks in a row -/
def mRow (i : Nat) (v : Value) (m : Nat) : Row := tRow v (marksL i 0 m)
/-- a list of marks as it has grown so far; the one that it was stands there still -/
def Gr (w0 : World) (i : Nat) (u : Value) (n0 : Nat) (Rest : List Row) (cur : Value) (m : Nat) (w : World) : Prop :=
  ∃ E, Rws w0 (mRow i cur m :: (E ++ Rest)) w ∧ n0 ≤ m ∧ ∃ vr mr, mRow i vr mr ∈ mRow i cur m :: E ∧ n0 ≤ mr ∧ vr.ownBlock = u.ownBlock
theorem Gr.start {w0 w : World} {i : Nat} {u : Value} {n0 : Nat} {Rest : List Row} (h : Rws w0 (mRow i u n0 :: Rest) w) : Gr w0 i u n0 Rest u n0 w :=
  ⟨[], h, Nat.le_refl _, u, n0, by simp, Nat.le_refl _, rfl⟩
theorem Gr.over {w0 w w' : World} {i : Nat} {u : Value} {n0 : Nat} {Rest : List Row} {cur : Value} {m : Nat} (h : Gr w0 i u n0 Rest cur m w) (k : Below w.heap.size w w') : Gr w0 i u n0 Rest cur m w' := by
  obtain ⟨E, h1, h2⟩ := h
  exact ⟨E, h1.over k, h2⟩
theorem Gr.row {w0 w : World} {i : Nat} {u : Value} {n0 : Nat} {Rest : List Row} {cur : Value} {m : Nat} (h : Gr w0 i u n0 Rest cur m w) : (mRow i cur m).At w w0.heap.size := by
  obtain ⟨E, h1, _⟩ := h
  exact h1.own _ (by simp)
theorem marks_map (i m p : Nat) : (marksL i 0 m).map Value.string ++ (marksL i m p).map Value.string = (marksL i 0 (m + p)).map Value.string := by rw [← List.map_append, marksL_app]
theorem mRow_eq (i : Nat) (v : Value) (m : Nat) : mRow i v m = ⟨v, 9, 1, m, (marksL i 0 m).map Value.string⟩ := by unfold mRow tRow; rw [marksL_length]
/-- there was room -/
theorem Gr.room {w0 w w' : World} {i : Nat} {u : Value} {n0 : Nat} {Rest : List Row} {g m cap p : Nat} (h : Gr w0 i u n0 Rest (.slice (some ⟨g, 0, none⟩) m cap) m w)
    (hv : w'.ownsRow w0.heap.size 9 1 (.slice (some ⟨g, 0, none⟩) (m + p) cap) (m + p) ((marksL i 0 m).map Value.string ++ (marksL i m p).map Value.string)) (hg : w.grownBy w' (some g)) :
    Gr w0 i u n0 Rest (.slice (some ⟨g, 0, none⟩) (m + p) cap) (m + p) w' := by
  obtain ⟨E, h1, h2, vr, mr, h3, h4, h5⟩ := h
  rw [marks_map] at hv
  have e1 := mRow_eq i (.slice (some ⟨g, 0, none⟩) m cap) m
  have hq := Rws.grown (l1 := []) (x := mRow i (.slice (some ⟨g, 0, none⟩) m cap) m) h1 (v' := .slice (some ⟨g, 0, none⟩) (m + p) cap) (n' := m + p) (xs' := (marksL i 0 (m + p)).map Value.string) hg hv (.inl rfl)
  have e2 : (⟨.slice (some ⟨g, 0, none⟩) (m + p) cap, (mRow i (.slice (some ⟨g, 0, none⟩) m cap) m).e, (mRow i (.slice (some ⟨g, 0, none⟩) m cap) m).size, m + p, (marksL i 0 (m + p)).map Value.string⟩ : Row) = mRow i (.slice (some ⟨g, 0, none⟩) (m + p) cap) (m + p) := by rw [mRow_eq i (.slice (some ⟨g, 0, none⟩) (m + p) cap) (m + p)]; rfl
  rw [e2] at hq
  refine ⟨E, hq, by omega, ?_⟩
  rcases List.mem_cons.1 h3 with e | h3
  · refine ⟨.slice (some ⟨g, 0, none⟩) (m + p) cap, m + p, by simp, by omega, ?_⟩
    have := congrArg Row.blk e
    rw [← h5]
    exact this.symm
  · exact ⟨vr, mr, List.mem_cons_of_mem _ h3, h4, h5⟩
/-- it was made anew -/
theorem Gr.fresh {w0 w w' : World} {i : Nat} {u : Value} {n0 : Nat} {Rest : List Row} {cur : Value} {m p : Nat} (h : Gr w0 i u n0 Rest cur m w) {v' : Value}
    (hv : w'.ownsRow w.heap.size 9 1 v' (m + p) ((marksL i 0 m).map Value.string ++ (marksL i m p).map Value.string)) (hg : w.grownBy w' none) :
    Gr w0 i u n0 Rest v' (m + p) w' := by
  obtain ⟨E, h1, h2, vr, mr, h3, h4, h5⟩ := h
  rw [marks_map] at hv
  have hb : Below w.heap.size w w' := (Below.refl _ w).grown hg (Nat.le_refl _) (fun k hk => by cases hk)
  have hq := h1.add hb (x := mRow i v' (m + p)) (by rw [mRow_eq]; exact hv)
  exact ⟨mRow i cur m :: E, hq, by omega, vr, mr, List.mem_cons_of_mem _ h3, h4, h5⟩
/-- the list that it was, as texts -/
theorem view {W : World} {lo : Nat} {i n0 mr : Nat} {vr : Value} (h : (mRow i vr mr).At W lo) (hn : n0 ≤ mr) {ao : Option Addr} {cp : Nat} (hb : vr.ownBlock = (Value.slice ao n0 cp).ownBlock) (h0 : ao = none → cp = 0) (h1 : 0 < n0 → ∃ g, ao = some ⟨g, 0, none⟩) (hs : n0 ≤ 1000000) : TextsIn W (.slice ao n0 cp) (marksL i 0 n0) := by
  refine ⟨ao, cp, by rw [marksL_length], h0, by rw [marksL_length]; omega, fun k hk => by rw [marksL_size]; omega, fun hp => ?_⟩
  rw [marksL_length] at hp
  obtain ⟨g, rfl⟩ := h1 hp
  have hbk : (mRow i vr mr).blk = some g := hb
  refine ⟨g, 0, rfl, (h.lt g hbk).2, fun k hk => ?_⟩
  rw [marksL_length] at hk
  rw [Nat.zero_add]
  refine h.cell hbk ?_
  rw [mRow_eq]
  simp [marksL, hk, show k < mr by omega]
/-- some marks, behind the first ones, their cells -/
theorem marksP (w : World) (i f p : Nat) (hi : i ≤ 500000) (hf : f ≤ 400000) (hp : p ≤ 1000) (h0 : 0 < p) :
    Calls Tryz.prog 121 #[.int .i64 i, .int .i64 f, .int .i64 p] w fun e w' => ∃ (g c : Nat), e = .returned (.slice (some ⟨g, 0, none⟩) p c) ∧ (∀ j u, ((marksL i f p).map Value.string)[j]? = some u → w'.cell? ((⟨g, 0, none⟩ : Addr).add j) = some u) ∧ Below w.heap.size w w' := by
  refine (markTexts_any w i f p hi (by omega) (by omega)).mono fun e w' ⟨u, h1, h2, h3⟩ => ?_
  have h4 : (tRow u (marksL i f p)).At w' w.heap.size := by unfold Row.At tRow; rw [marksL_length]; exact h2
  rcases h4.slice with ⟨_, e2, _⟩ | ⟨g, cp, e1, hb, _⟩
  · exfalso
    have := e2; unfold tRow at this; rw [marksL_length] at this
    have : p = 0 := this
    omega
  · have e3 : u = .slice (some ⟨g, 0, none⟩) p cp := by have := e1; unfold tRow at this; rw [marksL_length] at this; exact this
    subst e3
    refine ⟨g, cp, h1, fun j x hx => ?_, h3⟩
    rw [Go.WideShapes.add_plain, Nat.zero_add]
    exact h4.cell hb hx

end Go.Proofs.YtaabepiddbnggaaGreat.PB

/-
  The book, part 8: lists of marks are grown.
-/
namespace Go.Proofs.YtaabepiddbnggaaGreat.PB
open Go Go.RowKit Go.Lib

/-- lists that were grown: each reads as marks, and so does the one that it was -/
def Grown (w0 : World) (D : List Row) (us gs : List Value) (ns : List Nat) (i : Nat) : Prop :=
  gs.length = i ∧ ∀ j, j < i → ∃ gj uj nj, gs[j]? = some gj ∧ us[j]? = some uj ∧ ns[j]? = some nj ∧ ∀ W, (∀ x ∈ D, x.At W w0.heap.size) → TextsIn W gj (marksL j 0 (nj + 72)) ∧ TextsIn W uj (marksL j 0 nj)
/-- the rows that stand while the i-th list is grown -/
def restR (ov tv : Value) (gs us : List Value) (b : Nat) (cv : Value) (D : List Row) (ns : List Nat) (i : Nat) : List Row :=
  vRow ov gs :: bl b (bookCells tv cv) 44 :: vRow tv us :: (D ++ rowsOf (us.drop i) ((ns.mapIdx fun j n => marksL j 0 n).drop i))
/-- what the slices of the lists look like -/
def Looks (us : List Value) (ns : List Nat) : Prop := ∀ (i : Nat) (u : Value) (n : Nat), us[i]? = some u → ns[i]? = some n → n ≤ 1000 ∧ ∃ (ao : Option Addr) (cp : Nat), u = .slice ao n cp ∧ (ao = none → cp = 0) ∧ (0 < n → ∃ g, ao = some ⟨g, 0, none⟩)
theorem infoTexts : (Tryz.prog.info? 51).map (fun i => (i.zero, i.size, i.bytes)) = some (some (.slice none 0 0), 1, 24) := by kernel_rfl

theorem rows_next {us : List Value} {ns : List Nat} {i : Nat} {u : Value} {n : Nat} (hu : us[i]? = some u) (hn : ns[i]? = some n) :
    rowsOf (us.drop i) ((ns.mapIdx fun j n => marksL j 0 n).drop i) = mRow i u n :: rowsOf (us.drop (i + 1)) ((ns.mapIdx fun j n => marksL j 0 n).drop (i + 1)) := by
  have e1 : us.drop i = u :: us.drop (i + 1) := by
    rw [List.drop_eq_getElem_cons (List.getElem?_eq_some_iff.1 hu).1, (List.getElem?_eq_some_iff.1 hu).2]
  have h2 : (ns.mapIdx fun j n => marksL j 0 n)[i]? = some (marksL i 0 n) := by simp [hn]
  have e2 : (ns.mapIdx fun j n => marksL j 0 n).drop i = marksL i 0 n :: (ns.mapIdx fun j n => marksL j 0 n).drop (i + 1) := by
    rw [List.drop_eq_getElem_cons (List.getElem?_eq_some_iff.1 h2).1, (List.getElem?_eq_some_iff.1 h2).2]
  rw [e1, e2]
  rfl
/-- the i-th list is taken out of the rows -/
theorem take_out {w0 w : World} {ov tv cv : Value} {gs us : List Value} {b : Nat} {D : List Row} {ns : List Nat} {i : Nat} {u : Value} {n : Nat} (hu : us[i]? = some u) (hn : ns[i]? = some n) (h : Rws w0 (restR ov tv gs us b cv D ns i) w) :
    Rws w0 (mRow i u n :: restR ov tv gs us b cv D ns (i + 1)) w := by
  unfold restR at *
  rw [rows_next hu hn] at h
  refine h.perm ?_
  have : (vRow ov gs :: bl b (bookCells tv cv) 44 :: vRow tv us :: (D ++ mRow i u n :: rowsOf (us.drop (i + 1)) ((ns.mapIdx fun j n => marksL j 0 n).drop (i + 1)))) = (vRow ov gs :: bl b (bookCells tv cv) 44 :: vRow tv us :: D) ++ mRow i u n :: rowsOf (us.drop (i + 1)) ((ns.mapIdx fun j n => marksL j 0 n).drop (i + 1)) := by simp
  rw [this]
  refine List.perm_middle.trans ?_
  simp
/-- behind its growth it stands among those that are done -/
theorem put_in {w0 w w' : World} {ov ov' tv cv : Value} {gs us : List Value} {b : Nat} {D : List Row} {ns : List Nat} {i : Nat} {u v : Value} {n m : Nat} (hu : us[i]? = some u) (hn : ns[i]? = some n) (hl : Looks us ns) (hG : Grown w0 D us gs ns i)
    (h : Gr w0 i u n (restR ov tv gs us b cv D ns (i + 1)) v m w) (hm : m = n + 72)
    (hov : ∀ E, Rws w0 (mRow i v m :: (E ++ restR ov tv gs us b cv D ns (i + 1))) w → Rws w0 (mRow i v m :: (E ++ restR ov' tv (gs ++ [v]) us b cv D ns (i + 1))) w') :
    ∃ D', Rws w0 (restR ov' tv (gs ++ [v]) us b cv D' ns (i + 1)) w' ∧ Grown w0 D' us (gs ++ [v]) ns (i + 1) := by
  subst hm
  obtain ⟨E, h1, h2, vr, mr, h3, h4, h5⟩ := h
  have hq := hov E h1
  refine ⟨D ++ mRow i v (n + 72) :: E, ?_, ?_, ?_⟩
  · unfold restR at *
    refine hq.perm ?_
    have : (vRow ov' (gs ++ [v]) :: bl b (bookCells tv cv) 44 :: vRow tv us :: (D ++ mRow i v (n + 72) :: E ++ rowsOf (us.drop (i + 1)) ((ns.mapIdx fun j n => marksL j 0 n).drop (i + 1)))) = (vRow ov' (gs ++ [v]) :: bl b (bookCells tv cv) 44 :: vRow tv us :: D) ++ mRow i v (n + 72) :: (E ++ rowsOf (us.drop (i + 1)) ((ns.mapIdx fun j n => marksL j 0 n).drop (i + 1))) := by simp
    rw [this]
    refine List.Perm.trans ?_ List.perm_middle.symm
    refine List.Perm.cons _ ?_
    rw [show (vRow ov' (gs ++ [v]) :: bl b (bookCells tv cv) 44 :: vRow tv us :: D) ++ (E ++ rowsOf (us.drop (i + 1)) ((ns.mapIdx fun j n => marksL j 0 n).drop (i + 1))) = ((vRow ov' (gs ++ [v]) :: bl b (bookCells tv cv) 44 :: vRow tv us :: D) ++ E) ++ rowsOf (us.drop (i + 1)) ((ns.mapIdx fun j n => marksL j 0 n).drop (i + 1)) by simp,
      show E ++ (vRow ov' (gs ++ [v]) :: bl b (bookCells tv cv) 44 :: vRow tv us :: (D ++ rowsOf (us.drop (i + 1)) ((ns.mapIdx fun j n => marksL j 0 n).drop (i + 1)))) = (E ++ (vRow ov' (gs ++ [v]) :: bl b (bookCells tv cv) 44 :: vRow tv us :: D)) ++ rowsOf (us.drop (i + 1)) ((ns.mapIdx fun j n => marksL j 0 n).drop (i + 1)) by simp]
    exact List.Perm.append_right _ List.perm_append_comm
  · rw [List.length_append, hG.1]; rfl
  · intro j hj
    by_cases hji : j = i
    · subst hji
      obtain ⟨hn1, ao, cp, rfl, k0, k1⟩ := hl j u n hu hn
      refine ⟨v, _, n, by rw [List.getElem?_append_right (by rw [hG.1]; exact Nat.le_refl _), hG.1, Nat.sub_self]; rfl, hu, hn, fun W hW => ⟨?_, ?_⟩⟩
      · exact tRow_texts (hW (mRow j v (n + 72)) (by simp)) (by rw [marksL_length]; omega) (fun k hk => by rw [marksL_size]; omega)
      · have hr : (mRow j vr mr).At W w0.heap.size := by
          refine hW _ ?_
          rcases List.mem_cons.1 h3 with e | e
          · rw [e]; simp
          · simp [e]
        exact view hr h4 h5 k0 k1 (by omega)
    · obtain ⟨gj, uj, nj, e1, e2, e3, e4⟩ := hG.2 j (by omega)
      refine ⟨gj, uj, nj, by rw [List.getElem?_append_left (by rw [hG.1]; omega)]; exact e1, e2, e3, fun W hW => e4 W (fun x hx => hW x (by simp [hx]))⟩

end Go.Proofs.YtaabepiddbnggaaGreat.PB

/-
  The book, part 9: the walk of growTexts.
-/
namespace Go.Proofs.YtaabepiddbnggaaGreat.PB
open Go Go.RowKit Go.Lib

theorem Gr.cur {w0 w : World} {i : Nat} {u : Value} {n0 : Nat} {Rest : List Row} {cur : Value} {m : Nat} (h : Gr w0 i u n0 Rest cur m w) :
    (cur = .slice none 0 0 ∧ m = 0) ∨ ∃ g cap, cur = .slice (some ⟨g, 0, none⟩) m cap ∧ m ≤ cap := by
  have hr := h.row
  rw [mRow_eq] at hr
  rcases hr.slice with ⟨e, h1, _⟩ | ⟨g, cap, e, _, h2, _⟩
  · exact .inl ⟨e, h1⟩
  · exact .inr ⟨g, cap, e, h2⟩
theorem Gr.below {w0 w : World} {i : Nat} {u : Value} {n0 : Nat} {Rest : List Row} {cur : Value} {m : Nat} (h : Gr w0 i u n0 Rest cur m w) : Below w0.heap.size w0 w := by
  obtain ⟨E, h1, _⟩ := h
  exact h1.below
/-- a cell of a row that stands beside -/
theorem Gr.side {w0 w : World} {i : Nat} {u : Value} {n0 : Nat} {Rest : List Row} {cur : Value} {m : Nat} (h : Gr w0 i u n0 Rest cur m w) {x : Row} (hx : x ∈ Rest) : x.At w w0.heap.size := by
  obtain ⟨E, h1, _⟩ := h
  exact h1.own x (by simp [hx])

set_option maxRecDepth 100000 in
set_option maxHeartbeats 4000000 in
theorem growTexts_some (w0 w : World) (b : Nat) (tv cv : Value) (us : List Value) (ns : List Nat) (h : Rws w0 (restR (.slice none 0 0) tv [] us b cv [] ns 0) w) (hl : Looks us ns) (hlen : us.length = ns.length) (few : ns.length ≤ 100) (hne : 0 < ns.length) :
    Calls Tryz.prog 68 #[.pointer (some ⟨b, 0, none⟩)] w fun e w' => ∃ ov gs D, e = .returned ov ∧ Rws w0 (restR ov tv gs us b cv D ns ns.length) w' ∧ Grown w0 D us gs ns ns.length := by
  obtain ⟨i0, hi0, hz0, hz1, hz2⟩ := info_parts infoString
  obtain ⟨i1, hi1, hy0, hy1, hy2⟩ := info_parts infoTexts
  obtain ⟨g, cap, rfl⟩ : ∃ g cap, tv = .slice (some ⟨g, 0, none⟩) us.length cap := by
    rcases (h.own (vRow tv us) (by simp [restR])).slice with ⟨_, h1, _⟩ | ⟨g, cap, e1, _⟩
    · exact absurd (show us.length = 0 from h1) (by omega)
    · exact ⟨g, cap, e1⟩
  have HC := Lib.hid (show ∀ W lo, (bl b (bookCells (.slice (some ⟨g, 0, none⟩) us.length cap) cv) 44).At W lo → W.cell? ⟨b, 0, none⟩ = some (.slice (some ⟨g, 0, none⟩) us.length cap) from fun W lo hW => by rw [cell_at (bl_heap hW)]; rfl)
  have HCi := Lib.hid (show ∀ W lo i u, (vRow (.slice (some ⟨g, 0, none⟩) us.length cap) us).At W lo → us[i]? = some u → W.cell? ⟨g, i, none⟩ = some u from fun W lo i u hW hu => hW.cell rfl hu)
  have HL := Lib.hid hl
  have H0 := Lib.hid h
  clear h hl
  go_enter Tryz.func68, Tryz.ntmps68
  go_wp2
  go_loopw [3, 4] (fun vo vi wr => ∃ (i : Nat) (gs : List Value) (D : List Row), i ≤ ns.length ∧ vi = .int .i64 i ∧ Hid (Rws w0 (restR vo (.slice (some ⟨g, 0, none⟩) us.length cap) gs us b cv D ns i) wr) ∧ Hid (Grown w0 D us gs ns i)) (fun _ vi _ => ns.length - (RowKit.intOf vi).toNat)
  case atStart => exact ⟨0, [], [], Nat.zero_le _, rfl, H0, ⟨rfl, fun j hj => absurd hj (Nat.not_lt_zero _)⟩⟩
  case round =>
    obtain ⟨i, gs, D, hi, rfl, HR, HG⟩ := hrel
    have c0 := HC.out wr _ (HR.out.own _ (by simp [restR]))
    by_cases hil : i < ns.length
    · have b1 : decide ((i : Int) < (us.length : Int)) = true := decide_eq_true (by omega)
      have b1' : decide (i < us.length) = true := decide_eq_true (by omega)
      have j0 : (0 : Int) ≤ (i : Int) := by omega
      have j1 : (i : Int) < (us.length : Int) := by omega
      obtain ⟨u, hu⟩ : ∃ u, us[i]? = some u := ⟨_, List.getElem?_eq_getElem (by omega)⟩
      obtain ⟨n, hn⟩ : ∃ n, ns[i]? = some n := ⟨_, List.getElem?_eq_getElem hil⟩
      have c1 := HCi.out wr _ i u (HR.out.own _ (by simp [restR])) hu
      obtain ⟨hn1, -⟩ := HL.out i u n hu hn
      have HGr := Lib.hid (Gr.start (take_out hu hn HR.out))
      have HU := Lib.hid hu
      have HN := Lib.hid hn
      clear hu hn HR H0
      go_wp2
      go_loopw [5, 6] (fun vl vn wx => ∃ q : Nat, q ≤ 12 ∧ vn = .int .i64 q ∧ Hid (Gr w0 i u n (restR u3 (.slice (some ⟨g, 0, none⟩) us.length cap) gs us b cv D ns (i + 1)) vl (n + q) wx)) (fun _ vn _ => 12 - (RowKit.intOf vn).toNat)
      case atStart => exact ⟨0, Nat.zero_le _, rfl, HGr⟩
      case round =>
        obtain ⟨q, hq, rfl, HX⟩ := hrel
        obtain ⟨m, hm⟩ : ∃ m, m = n + q := ⟨_, rfl⟩
        rw [← hm] at HX
        obtain ⟨ao, cc, rfl, hnone, hsome⟩ : ∃ (ao : Option Addr) (cc : Nat), u5 = .slice ao m cc ∧ (ao = none → m = 0 ∧ cc = 0) ∧ (∀ a, ao = some a → ∃ gc, a = ⟨gc, 0, none⟩) := by
          rcases HX.out.cur with ⟨e, e1⟩ | ⟨gc, cc, e, _⟩
          · exact ⟨none, 0, by rw [e, e1], (fun _ => ⟨e1, rfl⟩), (fun a h => by cases h)⟩
          · exact ⟨_, cc, e, (fun h => by cases h), (fun a h => ⟨gc, by cases h; rfl⟩)⟩
        by_cases hq12 : q < 12
        · have b2 : decide ((q : Int) < 12) = true := decide_eq_true (by omega)
          have b2' : decide (q < 12) = true := decide_eq_true hq12
          have MP := fun W => Lib.hid (show Calls Tryz.prog 121 #[.int .i64 i, .int .i64 m, .int .i64 1] W fun e w' => ∃ (g c : Nat), e = .returned (.slice (some ⟨g, 0, none⟩) 1 c) ∧ (∀ j u, ((marksL i m 1).map Value.string)[j]? = some u → w'.cell? ((⟨g, 0, none⟩ : Addr).add j) = some u) ∧ Below W.heap.size W w' from marksP W i m 1 (by omega) (by omega) (by omega) (by omega))
          have hm1 : m ≤ 2000 := by omega
          have hM := Lib.hid hm
          clear hm HGr
          by_cases hroom : m + 1 ≤ cc
          · obtain ⟨gc, rfl⟩ : ∃ gc, ao = some ⟨gc, 0, none⟩ := by
              cases ao with
              | none => exact absurd (hnone rfl).2 (by omega)
              | some a => obtain ⟨gc, rfl⟩ := hsome a rfl; exact ⟨gc, rfl⟩
            clear hnone hsome
            go_wp2_with (first
              | (go_at_call 121; (with_reducible refine (MP _).out.mono ?_); rintro e w2 ⟨gm, cm, rfl, hnews, hb⟩; have hG2 := HX.out.over hb; clear hb)
              | (at_builtin; refine wpList_append_own_spare _ rfl _ _ 51 rfl w0.heap.size 9 i0 1 Tryz.underlying51 hi0 hz1 gc m cc ((marksL i 0 m).map Value.string) rfl ?c0 ⟨gm, 0, none⟩ 1 cm ((marksL i m 1).map Value.string) rfl ?c1 hnews ?c2 hroom ?_))
            case c0 => have := hG2.row; rw [mRow_eq] at this; exact this
            case c1 => simp [marksL_length]
            case c2 => intro x hx; simp at hx; obtain ⟨s, _, rfl⟩ := hx; rfl
            intro w3 hown3 hgrow3
            have HG3 := Lib.hid (hG2.room hown3 hgrow3)
            clear hown3 hgrow3 hG2 hnews HX
            go_wp2
            go_roundw
            case rel => exact ⟨q + 1, by omega, by go_num, by rw [show n + (q + 1) = m + 1 by have := hM.out; omega]; exact HG3⟩
            case measure => simp [RowKit.intOf]; omega
          · go_wp2_with (first
              | (go_at_call 121; (with_reducible refine (MP _).out.mono ?_); rintro e w2 ⟨gm, cm, rfl, hnews, hb⟩; have hG2 := HX.out.over hb; clear hb)
              | (at_builtin; refine wpList_append_grows _ rfl _ _ 51 rfl 9 i0 (.string ⟨#[]⟩) 1 16 Tryz.underlying51 hi0 hz0 hz1 hz2 rfl (by decide) ao m cc ((marksL i 0 m).map Value.string) rfl hnone ?c0 ?c1 ⟨gm, 0, none⟩ 1 cm ((marksL i m 1).map Value.string) rfl ?c2 hnews ?c3 ?c4 ?c5 ?c6 ?_))
            case c0 => simp [marksL_length]
            case c1 =>
              intro a ha j x hx
              obtain ⟨gc, rfl⟩ := hsome a ha
              subst ha
              have hr := hG2.row
              rw [mRow_eq] at hr
              rw [Go.WideShapes.add_plain, Nat.zero_add]
              exact hr.cell rfl hx
            case c2 => simp [marksL_length]
            case c3 => intro x hx; simp at hx; obtain ⟨s, _, rfl⟩ := hx; rfl
            case c4 => omega
            case c5 => unfold maxLen; omega
            case c6 => omega
            intro v3 w3 hown3 hgrow3
            have HG3 := Lib.hid (hG2.fresh hown3 hgrow3)
            clear hown3 hgrow3 hG2 hnews HX hnone hsome
            go_wp2
            go_roundw
            case rel => exact ⟨q + 1, by omega, by go_num, by rw [show n + (q + 1) = m + 1 by have := hM.out; omega]; exact HG3⟩
            case measure => simp [RowKit.intOf]; omega
        · have b2 : decide ((q : Int) < 12) = false := decide_eq_false (by omega)
          have b2' : decide (q < 12) = false := decide_eq_false hq12
          obtain rfl : q = 12 := by omega
          have MP := fun W => Lib.hid (show Calls Tryz.prog 121 #[.int .i64 i, .int .i64 m, .int .i64 60] W fun e w' => ∃ (g c : Nat), e = .returned (.slice (some ⟨g, 0, none⟩) 60 c) ∧ (∀ j u, ((marksL i m 60).map Value.string)[j]? = some u → w'.cell? ((⟨g, 0, none⟩ : Addr).add j) = some u) ∧ Below W.heap.size W w' from marksP W i m 60 (by omega) (by omega) (by omega) (by omega))
          have hm1 : m ≤ 2000 := by omega
          have hM := Lib.hid hm
          clear hm HGr
          by_cases hroom : m + 60 ≤ cc
          · obtain ⟨gc, rfl⟩ : ∃ gc, ao = some ⟨gc, 0, none⟩ := by
              cases ao with
              | none => exact absurd (hnone rfl).2 (by omega)
              | some a => obtain ⟨gc, rfl⟩ := hsome a rfl; exact ⟨gc, rfl⟩
            clear hnone hsome
            go_wp2_with (first
              | (go_at_call 121; (with_reducible refine (MP _).out.mono ?_); rintro e w2 ⟨gm, cm, rfl, hnews, hb⟩; have hG2 := HX.out.over hb; clear hb)
              | (at_builtin; refine wpList_append_own_spare _ rfl _ _ 51 rfl w0.heap.size 9 i0 1 Tryz.underlying51 hi0 hz1 gc m cc ((marksL i 0 m).map Value.string) rfl ?c0 ⟨gm, 0, none⟩ 60 cm ((marksL i m 60).map Value.string) rfl ?c1 hnews ?c2 hroom ?_))
            case c0 => have := hG2.row; rw [mRow_eq] at this; exact this
            case c1 => simp [marksL_length]
            case c2 => intro x hx; simp at hx; obtain ⟨s, _, rfl⟩ := hx; rfl
            intro w3 hown3 hgrow3
            have HG3 := Lib.hid (hG2.room hown3 hgrow3)
            clear hown3 hgrow3 hG2 hnews HX
            have HG4 := Lib.hid (HG3.out.over (below_new w3 (.cells #[.slice (some ⟨gc, 0, none⟩) (m + 60) cc] 51)))
            have hout := HG4.out.side (x := vRow u3 gs) (by simp [restR])
            have hone : (Value.slice (some ⟨gc, 0, none⟩) (m + 60) cc).oneCell' = true := by
              rcases HG3.out.cur with ⟨e, _⟩ | ⟨g9, c9, e, _⟩
              · rw [e]; rfl
              · rw [e]; rfl
            have hgl := HG.out.1
            have hw3 := HG3.out.below.size
            go_wp2_with (at_builtin; refine wpList_append_own_at _ rfl _ _ 34 rfl w0.heap.size 51 i1 (.slice none 0 0) 1 24 Tryz.underlying34 hi1 hy0 hy1 hy2 rfl (by decide) u3 gs.length gs rfl ?d0 ⟨w3.heap.size, 0, none⟩ 1 1 [.slice (some ⟨gc, 0, none⟩) (m + 60) cc] rfl rfl ?d1 ?d2 ?d3 ?d4 ?d5 ?_)
            case d0 => exact hout
            case d1 => exact cell_one_new _ _ _
            case d2 => intro x hx; simp at hx; subst hx; exact hone
            case d3 => unfold maxLen; omega
            case d4 => omega
            case d5 => simp; omega
            intro v5 w5 hown5 hgrow5 _ hat
            have hown5' : w5.ownsRow w0.heap.size 51 1 v5 (gs.length + 1) (gs ++ [Value.slice (some ⟨gc, 0, none⟩) (m + 60) cc]) := by first | exact hown5 | (rw [hgl]; exact hown5)
            have hz5 : (w3.alloc (.cells #[Value.slice (some ⟨gc, 0, none⟩) (m + 60) cc] 51)).heap.size = w3.heap.size + 1 := by simp
            obtain ⟨D', hD1, hD2⟩ := put_in (ov' := v5) HU.out HN.out HL.out HG.out HG4.out (by have := hM.out; omega) (w' := w5) (fun E hE => by
              have e : mRow i (.slice (some ⟨gc, 0, none⟩) (m + 60) cc) (m + 60) :: (E ++ restR u3 (.slice (some ⟨g, 0, none⟩) us.length cap) gs us b cv D ns (i + 1)) = (mRow i (.slice (some ⟨gc, 0, none⟩) (m + 60) cc) (m + 60) :: E) ++ vRow u3 gs :: (bl b (bookCells (.slice (some ⟨g, 0, none⟩) us.length cap) cv) 44 :: vRow (.slice (some ⟨g, 0, none⟩) us.length cap) us :: (D ++ rowsOf (us.drop (i + 1)) ((ns.mapIdx fun j n => marksL j 0 n).drop (i + 1)))) := by simp [restR]
              rw [e] at hE
              have hq := hE.grown hgrow5 hown5' (by
                rcases hat with hat | hat
                · exact .inl hat
                · exact .inr (fun g9 hg9 => by rw [hat] at hg9; have h9 := Option.some.inj hg9; first | omega | (simp at h9 ⊢; omega)))
              have e2 : (⟨v5, (vRow u3 gs).e, (vRow u3 gs).size, gs.length + 1, gs ++ [.slice (some ⟨gc, 0, none⟩) (m + 60) cc]⟩ : Row) = vRow v5 (gs ++ [.slice (some ⟨gc, 0, none⟩) (m + 60) cc]) := by unfold vRow; simp
              rw [e2] at hq
              simpa [restR] using hq)
            have HD1 := Lib.hid hD1
            have HD2 := Lib.hid hD2
            clear hown5 hown5' hgrow5 hz5 hat hout hone hD1 hD2 hgl hw3 HG3 HG4
            go_wp2
            go_roundw
            case rel => exact ⟨i + 1, _, D', by omega, by go_num, HD1, HD2⟩
            case measure => simp [RowKit.intOf]; omega
          · go_wp2_with (first
              | (go_at_call 121; (with_reducible refine (MP _).out.mono ?_); rintro e w2 ⟨gm, cm, rfl, hnews, hb⟩; have hG2 := HX.out.over hb; clear hb)
              | (at_builtin; refine wpList_append_grows _ rfl _ _ 51 rfl 9 i0 (.string ⟨#[]⟩) 1 16 Tryz.underlying51 hi0 hz0 hz1 hz2 rfl (by decide) ao m cc ((marksL i 0 m).map Value.string) rfl hnone ?c0 ?c1 ⟨gm, 0, none⟩ 60 cm ((marksL i m 60).map Value.string) rfl ?c2 hnews ?c3 ?c4 ?c5 ?c6 ?_))
            case c0 => simp [marksL_length]
            case c1 =>
              intro a ha j x hx
              obtain ⟨gc, rfl⟩ := hsome a ha
              subst ha
              have hr := hG2.row
              rw [mRow_eq] at hr
              rw [Go.WideShapes.add_plain, Nat.zero_add]
              exact hr.cell rfl hx
            case c2 => simp [marksL_length]
            case c3 => intro x hx; simp at hx; obtain ⟨s, _, rfl⟩ := hx; rfl
            case c4 => omega
            case c5 => unfold maxLen; omega
            case c6 => omega
            intro v3 w3 hown3 hgrow3
            have hG3 := hG2.fresh hown3 hgrow3
            obtain ⟨g7, c7, rfl⟩ : ∃ g7 c7, v3 = .slice (some ⟨g7, 0, none⟩) (m + 60) c7 := by
              rcases hG3.cur with ⟨_, e⟩ | ⟨g7, c7, e, _⟩
              · omega
              · exact ⟨g7, c7, e⟩
            have HG3 := Lib.hid hG3
            clear hown3 hgrow3 hG2 hG3 hnews HX hnone hsome
            have HG4 := Lib.hid (HG3.out.over (below_new w3 (.cells #[Value.slice (some ⟨g7, 0, none⟩) (m + 60) c7] 51)))
            have hout := HG4.out.side (x := vRow u3 gs) (by simp [restR])
            have hone : (Value.slice (some ⟨g7, 0, none⟩) (m + 60) c7).oneCell' = true := by
              rcases HG3.out.cur with ⟨e, _⟩ | ⟨g9, c9, e, _⟩
              · rw [e]; rfl
              · rw [e]; rfl
            have hgl := HG.out.1
            have hw3 := HG3.out.below.size
            go_wp2_with (at_builtin; refine wpList_append_own_at _ rfl _ _ 34 rfl w0.heap.size 51 i1 (.slice none 0 0) 1 24 Tryz.underlying34 hi1 hy0 hy1 hy2 rfl (by decide) u3 gs.length gs rfl ?d0 ⟨w3.heap.size, 0, none⟩ 1 1 [Value.slice (some ⟨g7, 0, none⟩) (m + 60) c7] rfl rfl ?d1 ?d2 ?d3 ?d4 ?d5 ?_)
            case d0 => exact hout
            case d1 => exact cell_one_new _ _ _
            case d2 => intro x hx; simp at hx; subst hx; exact hone
            case d3 => unfold maxLen; omega
            case d4 => omega
            case d5 => simp; omega
            intro v5 w5 hown5 hgrow5 _ hat
            have hown5' : w5.ownsRow w0.heap.size 51 1 v5 (gs.length + 1) (gs ++ [Value.slice (some ⟨g7, 0, none⟩) (m + 60) c7]) := by first | exact hown5 | (rw [hgl]; exact hown5)
            have hz5 : (w3.alloc (.cells #[Value.slice (some ⟨g7, 0, none⟩) (m + 60) c7] 51)).heap.size = w3.heap.size + 1 := by simp
            obtain ⟨D', hD1, hD2⟩ := put_in (ov' := v5) HU.out HN.out HL.out HG.out HG4.out (by have := hM.out; omega) (w' := w5) (fun E hE => by
              have e : mRow i (Value.slice (some ⟨g7, 0, none⟩) (m + 60) c7) (m + 60) :: (E ++ restR u3 (.slice (some ⟨g, 0, none⟩) us.length cap) gs us b cv D ns (i + 1)) = (mRow i (Value.slice (some ⟨g7, 0, none⟩) (m + 60) c7) (m + 60) :: E) ++ vRow u3 gs :: (bl b (bookCells (.slice (some ⟨g, 0, none⟩) us.length cap) cv) 44 :: vRow (.slice (some ⟨g, 0, none⟩) us.length cap) us :: (D ++ rowsOf (us.drop (i + 1)) ((ns.mapIdx fun j n => marksL j 0 n).drop (i + 1)))) := by simp [restR]
              rw [e] at hE
              have hq := hE.grown hgrow5 hown5' (by
                rcases hat with hat | hat
                · exact .inl hat
                · exact .inr (fun g9 hg9 => by rw [hat] at hg9; have h9 := Option.some.inj hg9; first | omega | (simp at h9 ⊢; omega)))
              have e2 : (⟨v5, (vRow u3 gs).e, (vRow u3 gs).size, gs.length + 1, gs ++ [Value.slice (some ⟨g7, 0, none⟩) (m + 60) c7]⟩ : Row) = vRow v5 (gs ++ [Value.slice (some ⟨g7, 0, none⟩) (m + 60) c7]) := by unfold vRow; simp
              rw [e2] at hq
              simpa [restR] using hq)
            have HD1 := Lib.hid hD1
            have HD2 := Lib.hid hD2
            clear hown5 hown5' hgrow5 hz5 hat hout hone hD1 hD2 hgl hw3 HG3 HG4
            go_wp2
            go_roundw
            case rel => exact ⟨i + 1, _, D', by omega, by go_num, HD1, HD2⟩
            case measure => simp [RowKit.intOf]; omega
    · have b1 : decide ((i : Int) < (us.length : Int)) = false := decide_eq_false (by omega)
      have b1' : decide (i < us.length) = false := decide_eq_false (by omega)
      obtain rfl : i = ns.length := by omega
      clear H0
      go_wp2
      go_ret
      exact ⟨_, gs, D, rfl, HR.out, HG.out⟩

end Go.Proofs.YtaabepiddbnggaaGreat.PB
