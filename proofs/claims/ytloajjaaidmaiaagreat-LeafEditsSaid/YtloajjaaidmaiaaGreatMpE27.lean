/-
  Texts of the proof of SaidEdit9, side by side: K6Items, K8Items.
-/
import Derived.Test.YtloajjaaidmaiaaGreatMpE04
import Derived.Test.YtloajjaaidmaiaaGreatMpE25
import Derived.Test.YtloajjaaidmaiaaGreatMpE26
/-
  The book, Items: are lists marked?
-/
namespace Go.Proofs.YtloajjaaidmaiaaGreat.PK
open Go Go.RowKit Go.Lib

set_option maxRecDepth 100000 in
set_option maxHeartbeats 2000000 in
theorem markedItems_some (w : World) (v : Value) (us : List Value) (ls : List (List (List Value))) (h : LL kItems w v us ls) (hm : ∀ (i : Nat) (l : List (List Value)), ls[i]? = some l → l.length ≤ 5000 ∧ l = marksL kItems i 0 l.length) (few : ls.length ≤ 240) :
    Calls Tryz.prog 73 #[v] w fun r w' => r = .returned (.bool true) ∧ Below w.heap.size w w' := by
  have HB := Lib.hid h
  obtain ⟨g, cap, rfl, hgl, hul, -, -⟩ := h
  have HC := Lib.hid (show ∀ (W : World) (i : Nat) (u : Value) (l : List (List Value)), LL kItems W (.slice (some ⟨g, 0, none⟩) ls.length cap) us ls → us[i]? = some u → ls[i]? = some l → W.cell? ⟨g, i, none⟩ = some u ∧ ElemsIn kItems W u l from fun W i u l hW hu hl => by
    obtain ⟨g', cap', e, _, _, h4, h5⟩ := hW
    obtain rfl : g = g' := by simpa using (Value.slice.inj e).1
    exact ⟨h4 i u hu, h5 i u l hu hl⟩)
  have HM := Lib.hid hm
  clear hm
  go_enter Tryz.func73, Tryz.ntmps73
  go_wp2
  go_loopw [3] (fun vi wr => ∃ i : Nat, i ≤ ls.length ∧ vi = .int .i64 i ∧ Hid (LL kItems wr (.slice (some ⟨g, 0, none⟩) ls.length cap) us ls) ∧ Hid (Below w.heap.size w wr)) (fun vi _ => ls.length - (RowKit.intOf vi).toNat)
  case atStart => exact ⟨0, Nat.zero_le _, rfl, HB, Below.refl _ _⟩
  case round =>
    obtain ⟨i, hi, rfl, HW, HL⟩ := hrel
    by_cases hil : i < ls.length
    · have b1 : decide ((i : Int) < (ls.length : Int)) = true := decide_eq_true (by omega)
      have b1' : decide (i < ls.length) = true := decide_eq_true hil
      have j0 : (0 : Int) ≤ (i : Int) := by omega
      have j1 : (i : Int) < (ls.length : Int) := by omega
      obtain ⟨u, hu⟩ : ∃ u, us[i]? = some u := ⟨_, List.getElem?_eq_getElem (by omega)⟩
      obtain ⟨l, hl⟩ : ∃ l, ls[i]? = some l := ⟨_, List.getElem?_eq_getElem hil⟩
      obtain ⟨hl1, hl2⟩ := HM.out i l hl
      obtain ⟨-, ht⟩ := HC.out wr i u l HW.out hu hl
      obtain ⟨ao, cp, rfl, -⟩ := ht
      obtain ⟨n, hn⟩ : ∃ n, n = l.length := ⟨_, rfl⟩
      rw [← hn] at hl1 hl2
      have HX := Lib.hid (show ∀ W, LL kItems W (.slice (some ⟨g, 0, none⟩) ls.length cap) us ls → W.cell? ⟨g, i, none⟩ = some (.slice ao n cp) from fun W hW => by rw [hn]; exact (HC.out W i _ l hW hu hl).1)
      have HTx := Lib.hid (show ∀ W, LL kItems W (.slice (some ⟨g, 0, none⟩) ls.length cap) us ls → ElemsIn kItems W (.slice ao n cp) l from fun W hW => by rw [hn]; exact (HC.out W i _ l hW hu hl).2)
      have MK := fun W => Lib.hid (marks0Items W i n (by omega) (by omega))
      have HS := Lib.hid (show ∀ W W2 a c, LL kItems W (.slice (some ⟨g, 0, none⟩) ls.length cap) us ls → (tRow kItems (.slice a n c) (marksL kItems i 0 n)).At W2 W.heap.size → Below W.heap.size W W2 → Calls Tryz.prog 14 #[.slice ao n cp, .slice a n c] W2 fun e w' => e = .returned (.bool true) ∧ Below W2.heap.size W2 w' from fun W W2 a c hW hr hb => by
        have h7 := (HTx.out W hW).below hb
        have h8 := tRow_elems hr (by rw [marksL_length]; omega) (marksL_ok i 0 n)
        rw [← hl2] at h8
        exact sameItems_same W2 _ _ l h7 h8)
      have HWd := Lib.hid (HW.out.below ((Below.refl _ _).drew))
      have HLd := Lib.hid (thenBelow HL.out ((Below.refl _ _).drew))
      clear hu hl hl2 hn HC HB HM
      go_wp2
      go_region_held3 (fun W => W.cell? ⟨g, i, none⟩ = some (.slice ao n cp)) (first | exact HX.out _ HWd.out | exact HX.out _ HW.out | exact HX.out _ (by assumption))
        ((first
          | (go_at_call 111; (with_reducible refine (MK _).out.mono ?_); rintro e w2 ⟨am, cm, rfl, -, hrm, hb⟩; have hW2 := HWd.out.below hb; have HL2 := Lib.hid (thenBelow HLd.out hb); have HS2 := Lib.hid (HS.out _ _ am cm HWd.out hrm hb); clear hrm hb)
          | (go_at_call 14; (with_reducible refine HS2.out.mono ?_); rintro e w3 ⟨rfl, hb⟩; have hW3 := hW2.below hb; have HL3 := Lib.hid (thenBelow HL2.out hb); clear hb)))
      all_goals
        have HW3 := Lib.hid hW3
        clear hW3 hW2
        go_wp2
        go_roundw
        case rel => exact ⟨i + 1, by omega, by go_num, HW3, HL3⟩
        case measure => simp [RowKit.intOf]; omega
    · have b1 : decide ((i : Int) < (ls.length : Int)) = false := decide_eq_false (by omega)
      have b1' : decide (i < ls.length) = false := decide_eq_false hil
      go_wp2
      go_ret
      exact ⟨rfl, HL.out⟩

end Go.Proofs.YtloajjaaidmaiaaGreat.PK

/-
  The book, Items: its calls, whether the book keeps some lists or none.
-/
namespace Go.Proofs.YtloajjaaidmaiaaGreat.PK
open Go Go.RowKit Go.Lib

theorem stillItems_empty (w : World) (b : Nat) (a : Option Addr) (c : Nat) (h : w.cell? ⟨b, 4, none⟩ = some (.slice a 0 c)) :
    Calls Tryz.prog 46 #[.pointer (some ⟨b, 0, none⟩)] w fun r w' => r = .returned (.bool true) ∧ w = w' := by
  go_enter Tryz.func46, Tryz.ntmps46
  go_wp2
  refine wp_loop_rounds 1 ?_
  rw [rounds_succ]
  go_wp2
  go_ret
  exact ⟨rfl, rfl⟩
theorem putItems_empty (w : World) (b : Nat) (a : Option Addr) (c : Nat) (h : w.cell? ⟨b, 4, none⟩ = some (.slice a 0 c)) :
    Calls Tryz.prog 57 #[.pointer (some ⟨b, 0, none⟩)] w fun r w' => r = .returned (.tuple #[]) ∧ w = w' := by
  go_enter Tryz.func57, Tryz.ntmps57
  go_wp2
  refine wp_loop_rounds 1 ?_
  rw [rounds_succ]
  go_wp2
  go_end0
  exact ⟨rfl, rfl⟩
theorem growItems_empty (w : World) (b : Nat) (a : Option Addr) (c : Nat) (h : w.cell? ⟨b, 4, none⟩ = some (.slice a 0 c)) :
    Calls Tryz.prog 64 #[.pointer (some ⟨b, 0, none⟩)] w fun r w' => r = .returned (.slice none 0 0) ∧ w = w' := by
  go_enter Tryz.func64, Tryz.ntmps64
  go_wp2
  refine wp_loop_rounds 1 ?_
  rw [rounds_succ]
  go_wp2
  go_ret
  exact ⟨rfl, rfl⟩
theorem markedItems_empty (w : World) (a : Option Addr) (c : Nat) :
    Calls Tryz.prog 73 #[.slice a 0 c] w fun r w' => r = .returned (.bool true) ∧ w = w' := by
  go_enter Tryz.func73, Tryz.ntmps73
  go_wp2
  refine wp_loop_rounds 1 ?_
  rw [rounds_succ]
  go_wp2
  go_ret
  exact ⟨rfl, rfl⟩

section
variable {w0 w : World} {R : List Row} {b : Nat} {bs : List Value} {tv cv : Value} {us cs : List Value} {ls ms : List (List (List Value))}
theorem kItems_still (h : Bk kItems w0 R b bs tv cv us cs ls ls w) : Calls Tryz.prog 46 #[.pointer (some ⟨b, 0, none⟩)] w fun r w' => r = .returned (.bool true) ∧ Bk kItems w0 R b bs tv cv us cs ls ls w' := by
  by_cases hn : ls.length = 0
  · obtain ⟨⟨a, c, e⟩, _⟩ := h.shapes
    rw [h.ul, hn] at e
    have hc : w.cell? ⟨b, 4, none⟩ = some tv := h.cell0
    rw [e] at hc
    exact (stillItems_empty w b a c hc).mono fun r w' ⟨h1, h2⟩ => ⟨h1, h2 ▸ h⟩
  · exact (stillItems_some w0 w b bs tv cv us cs R ls h (by omega)).mono fun r w' ⟨h1, h2⟩ => ⟨h1, h.over h2⟩
theorem kItems_put (h : Bk kItems w0 R b bs tv cv us cs ls ms w) : Calls Tryz.prog 57 #[.pointer (some ⟨b, 0, none⟩)] w fun r w' => r = .returned (.tuple #[]) ∧ Bk kItems w0 R b bs tv cv us cs (putL kItems ls ls.length) ms w' := by
  by_cases hn : ls.length = 0
  · obtain ⟨⟨a, c, e⟩, _⟩ := h.shapes
    rw [h.ul, hn] at e
    have hc : w.cell? ⟨b, 4, none⟩ = some tv := h.cell0
    rw [e] at hc
    have el : putL kItems ls ls.length = ls := by rw [hn, putL_zero]
    rw [el]
    exact (putItems_empty w b a c hc).mono fun r w' ⟨h1, h2⟩ => ⟨h1, h2 ▸ h⟩
  · exact putItems_some w0 w R b bs tv cv us cs ls ms h (by omega)
/-- grown: what is told, its rows; both read as marks wherever these rows stand -/
def GrewItems (w0 : World) (R : List Row) (b : Nat) (bs : List Value) (tv : Value) (e : Ending) (w' : World) : Prop :=
  ∃ ov rs, e = .returned ov ∧ (∃ a n c, ov = .slice a n c) ∧ Rws w0 (rs ++ (R ++ [bl b bs 36])) w' ∧ ∀ W, (∀ x ∈ rs, x.At W w0.heap.size) → (Calls Tryz.prog 73 #[ov] W fun r w' => r = .returned (.bool true) ∧ Below W.heap.size W w') ∧ Calls Tryz.prog 73 #[tv] W fun r w' => r = .returned (.bool true) ∧ Below W.heap.size W w'
theorem kItems_grow (h : Bk kItems w0 R b bs tv cv us cs (putL kItems ls ls.length) ms w) (hs : ∀ l ∈ ls, l.length ≤ 4000) :
    Calls Tryz.prog 64 #[.pointer (some ⟨b, 0, none⟩)] w (GrewItems w0 R b bs tv) := by
  have hul := h.ul
  rw [putL_length] at hul
  by_cases hn : ls.length = 0
  · obtain ⟨⟨a, c, e⟩, _⟩ := h.shapes
    rw [hul, hn] at e
    have hc : w.cell? ⟨b, 4, none⟩ = some tv := h.cell0
    rw [e] at hc
    refine (growItems_empty w b a c hc).mono fun r w' ⟨h1, h2⟩ => ⟨_, [], h1, ⟨_, _, _, rfl⟩, ?_, fun W _ => ⟨(markedItems_empty W none 0).mono fun r w' ⟨q1, q2⟩ => ⟨q1, q2 ▸ Below.refl _ _⟩, ?_⟩⟩
    · subst h2
      refine h.rows.sub ?_
      rw [List.nil_append]
      exact (List.Sublist.refl R).append ((List.nil_sublist _).cons_cons _)
    · rw [e]
      exact (markedItems_empty W a c).mono fun r w' ⟨q1, q2⟩ => ⟨q1, q2 ▸ Below.refl _ _⟩
  · have hlk : Looks us (ls.map List.length) := fun i u n hu hn2 => by
      rw [List.getElem?_map] at hn2
      obtain ⟨l, hl, rfl⟩ := Option.map_eq_some_iff.1 hn2
      have hp : (putL kItems ls ls.length)[i]? = some (marksL kItems i 0 l.length) := by rw [putL_all]; simp [hl]
      refine ⟨hs l (List.mem_of_getElem? hl), ?_⟩
      rcases (h.ur_ hu hp).slice with ⟨e, h1, _⟩ | ⟨g, cap, e, _⟩
      · have h2 : (marksL kItems i 0 l.length).length = 0 := h1
        rw [marksL_length] at h2
        exact ⟨none, 0, by rw [h2]; exact e, fun _ => rfl, fun q => absurd q (by omega)⟩
      · have e2 : u = .slice (some ⟨g, 0, none⟩) (marksL kItems i 0 l.length).length cap := e
        rw [marksL_length] at e2
        exact ⟨_, cap, e2, (fun q => by cases q), fun _ => ⟨g, rfl⟩⟩
    have hr := h.rows
    unfold kRows at hr
    rw [putL_all] at hr
    have hr2 : Rws w0 (restR kItems (.slice none 0 0) tv [] us (R ++ [bl b bs 36]) [] (ls.map List.length) 0) w := by
      unfold restR
      rw [List.nil_append, List.drop_zero, List.drop_zero]
      generalize rowsOf kItems us ((ls.map List.length).mapIdx fun j n => marksL kItems j 0 n) = Y at hr ⊢
      have hsub : (R ++ (bl b bs 36 :: vRow kItems tv us :: Y)).Sublist (R ++ (bl b bs 36 :: vRow kItems tv us :: vRow kItems cv cs :: (Y ++ rowsOf kItems cs ms))) :=
        (List.Sublist.refl R).append (List.Sublist.cons_cons _ (List.Sublist.cons_cons _ (List.Sublist.cons _ (List.sublist_append_left _ _))))
      have h3 := (hr.sub hsub).perm (k := vRow kItems tv us :: (Y ++ (R ++ [bl b bs 36]))) (by
        have e1 : R ++ (bl b bs 36 :: vRow kItems tv us :: Y) = (R ++ [bl b bs 36]) ++ (vRow kItems tv us :: Y) := by simp
        rw [e1]
        exact List.perm_append_comm)
      exact h3.add (Below.refl _ _) (x := vRow kItems (.slice none 0 0) []) (World.ownsRow_nil _ _ _ _)
    refine (growItems_some w0 w _ b bs tv us (ls.map List.length) hr2 (by simp) h.c0 hlk (by simpa using hul) (by have := h.few; rw [putL_length] at this; simpa using this) (by simp; omega)).mono fun r w' ⟨ov, gs, D, h1, h2, h3⟩ => ?_
    have hgl := h3.1
    have hnl : (ls.map List.length).length = ls.length := by simp
    have hfew := h.few
    rw [putL_length] at hfew
    have hovs : ∃ a n c, ov = .slice a n c := owns_shape (h2.own (vRow kItems ov gs) (by simp [restR]))
    have hdrop : rowsOf kItems (us.drop (ls.map List.length).length) (((ls.map List.length).mapIdx fun j n => marksL kItems j 0 n).drop (ls.map List.length).length) = [] := by
      rw [List.drop_of_length_le (by rw [hnl]; omega)]
      rfl
    have hrs : Rws w0 ((vRow kItems ov gs :: vRow kItems tv us :: D) ++ (R ++ [bl b bs 36])) w' := by
      unfold restR at h2
      rw [hdrop, List.append_nil] at h2
      exact h2
    refine ⟨ov, _, h1, hovs, hrs, fun W hW => ?_⟩
    have hov : (vRow kItems ov gs).At W w0.heap.size := hW _ (by simp)
    have htv : (vRow kItems tv us).At W w0.heap.size := hW _ (by simp)
    have hD : ∀ x ∈ D, x.At W w0.heap.size := fun x hx => hW x (by simp [hx])
    have LL1 : LL kItems W ov gs ((ls.map List.length).mapIdx fun j n => marksL kItems j 0 (n + 72)) := by
      rcases hov.slice with ⟨_, q, _⟩ | ⟨g, cap, e, hb, _⟩
      · exact absurd (show gs.length = 0 from q) (by omega)
      · refine ⟨g, cap, ?_, (hov.lt g hb).2, ?_, fun i u hu => hov.cell hb hu, fun i u l hu hl => ?_⟩
        · have e2 : ov = .slice (some ⟨g, 0, none⟩) gs.length cap := e
          rw [e2, hgl]; simp
        · simp [hgl]
        · have hi := (List.getElem?_eq_some_iff.1 hu).1
          obtain ⟨gj, uj, nj, k1, k2, k3, k4⟩ := h3.2 i (by omega)
          rw [hu] at k1
          obtain rfl : u = gj := by simpa using k1
          rw [List.getElem?_mapIdx, k3] at hl
          obtain rfl : marksL kItems i 0 (nj + 72) = l := by simpa using hl
          exact (k4 W hD).1
    have LL2 : LL kItems W tv us ((ls.map List.length).mapIdx fun j n => marksL kItems j 0 n) := by
      rcases htv.slice with ⟨_, q, _⟩ | ⟨g, cap, e, hb, _⟩
      · exact absurd (show us.length = 0 from q) (by omega)
      · refine ⟨g, cap, ?_, (htv.lt g hb).2, ?_, fun i u hu => htv.cell hb hu, fun i u l hu hl => ?_⟩
        · have e2 : tv = .slice (some ⟨g, 0, none⟩) us.length cap := e
          rw [e2, hul]; simp
        · simp [hul]
        · have hi := (List.getElem?_eq_some_iff.1 hu).1
          obtain ⟨gj, uj, nj, k1, k2, k3, k4⟩ := h3.2 i (by omega)
          rw [hu] at k2
          obtain rfl : u = uj := by simpa using k2
          rw [List.getElem?_mapIdx, k3] at hl
          obtain rfl : marksL kItems i 0 nj = l := by simpa using hl
          exact (k4 W hD).2
    refine ⟨markedItems_some W ov gs _ LL1 (fun i l hl => ?_) (by simpa using hfew), markedItems_some W tv us _ LL2 (fun i l hl => ?_) (by simpa using hfew)⟩
    · rw [List.getElem?_mapIdx, List.getElem?_map] at hl
      cases hk : ls[i]? with
      | none => rw [hk] at hl; simp at hl
      | some l0 =>
        rw [hk] at hl
        obtain rfl : marksL kItems i 0 (l0.length + 72) = l := by simpa using hl
        have := hs l0 (List.mem_of_getElem? hk)
        rw [marksL_length]
        exact ⟨by omega, rfl⟩
    · rw [List.getElem?_mapIdx, List.getElem?_map] at hl
      cases hk : ls[i]? with
      | none => rw [hk] at hl; simp at hl
      | some l0 =>
        rw [hk] at hl
        obtain rfl : marksL kItems i 0 l0.length = l := by simpa using hl
        have := hs l0 (List.mem_of_getElem? hk)
        rw [marksL_length]
        exact ⟨by omega, rfl⟩
end

end Go.Proofs.YtloajjaaidmaiaaGreat.PK
