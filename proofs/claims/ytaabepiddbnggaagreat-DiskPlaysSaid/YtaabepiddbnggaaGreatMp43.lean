/-
  Texts of the proof of SaidPlays, side by side: BbX.
-/
import Derived.Test.YtaabepiddbnggaaGreatMp42
/-
  The book, part 13: its three calls on lists of texts, whether it keeps some or none.
-/
namespace Go.Proofs.YtaabepiddbnggaaGreat.PB
open Go Go.RowKit Go.Lib

theorem stillTexts_empty (w : World) (b : Nat) (a : Option Addr) (c : Nat) (h : w.cell? ⟨b, 0, none⟩ = some (.slice a 0 c)) :
    Calls Tryz.prog 50 #[.pointer (some ⟨b, 0, none⟩)] w fun r w' => r = .returned (.bool true) ∧ w = w' := by
  go_enter Tryz.func50, Tryz.ntmps50
  go_wp2
  refine wp_loop_rounds 1 ?_
  rw [rounds_succ]
  go_wp2
  go_ret
  exact ⟨rfl, rfl⟩
theorem putTexts_empty (w : World) (b : Nat) (a : Option Addr) (c : Nat) (h : w.cell? ⟨b, 0, none⟩ = some (.slice a 0 c)) :
    Calls Tryz.prog 61 #[.pointer (some ⟨b, 0, none⟩)] w fun r w' => r = .returned (.tuple #[]) ∧ w = w' := by
  go_enter Tryz.func61, Tryz.ntmps61
  go_wp2
  refine wp_loop_rounds 1 ?_
  rw [rounds_succ]
  go_wp2
  go_end0
  exact ⟨rfl, rfl⟩
theorem growTexts_empty (w : World) (b : Nat) (a : Option Addr) (c : Nat) (h : w.cell? ⟨b, 0, none⟩ = some (.slice a 0 c)) :
    Calls Tryz.prog 68 #[.pointer (some ⟨b, 0, none⟩)] w fun r w' => r = .returned (.slice none 0 0) ∧ w = w' := by
  go_enter Tryz.func68, Tryz.ntmps68
  go_wp2
  refine wp_loop_rounds 1 ?_
  rw [rounds_succ]
  go_wp2
  go_ret
  exact ⟨rfl, rfl⟩
theorem markedTexts_empty (w : World) (a : Option Addr) (c : Nat) :
    Calls Tryz.prog 77 #[.slice a 0 c] w fun r w' => r = .returned (.bool true) ∧ w = w' := by
  go_enter Tryz.func77, Tryz.ntmps77
  go_wp2
  refine wp_loop_rounds 1 ?_
  rw [rounds_succ]
  go_wp2
  go_ret
  exact ⟨rfl, rfl⟩

section
variable {w0 w : World} {b : Nat} {tv cv : Value} {us cs : List Value} {ls ms : List (List ByteArray)}
theorem Bk.cell0 (h : Bk w0 [] b tv cv us cs ls ms w) : w.cell? ⟨b, 0, none⟩ = some tv := by rw [cell_at h.cells]; rfl
theorem text_still (h : Bk w0 [] b tv cv us cs ls ls w) : Calls Tryz.prog 50 #[.pointer (some ⟨b, 0, none⟩)] w fun r w' => r = .returned (.bool true) ∧ Bk w0 [] b tv cv us cs ls ls w' := by
  by_cases hn : ls.length = 0
  · obtain ⟨⟨a, c, e⟩, _⟩ := h.shapes
    rw [h.ul, hn] at e
    have hc := h.cell0
    rw [e] at hc
    exact (stillTexts_empty w b a c hc).mono fun r w' ⟨h1, h2⟩ => ⟨h1, h2 ▸ h⟩
  · exact (stillTexts_some w0 w b tv cv us cs [] ls h (by omega)).mono fun r w' ⟨h1, h2⟩ => ⟨h1, h.over h2⟩
theorem text_put (h : Bk w0 [] b tv cv us cs ls ms w) : Calls Tryz.prog 61 #[.pointer (some ⟨b, 0, none⟩)] w fun r w' => r = .returned (.tuple #[]) ∧ Bk w0 [] b tv cv us cs (putL ls ls.length) ms w' := by
  by_cases hn : ls.length = 0
  · obtain ⟨⟨a, c, e⟩, _⟩ := h.shapes
    rw [h.ul, hn] at e
    have hc := h.cell0
    rw [e] at hc
    have el : putL ls ls.length = ls := by rw [hn, putL_zero]
    rw [el]
    exact (putTexts_empty w b a c hc).mono fun r w' ⟨h1, h2⟩ => ⟨h1, h2 ▸ h⟩
  · exact putTexts_some w0 w b tv cv us cs ls ms h (by omega)
end

/-- all is grown: the book's cells; both rows read as marks -/
structure Fin (w0 : World) (b : Nat) (tv cv ov : Value) (w : World) : Prop where
  cells : w.heap[b]? = some (.cells (bookCells tv cv).toArray 44 (0, 0))
  below : Below w0.heap.size w0 w
  m1 : ∀ W, Below w.heap.size w W → Calls Tryz.prog 77 #[ov] W fun r w' => r = .returned (.bool true) ∧ Below W.heap.size W w'
  m2 : ∀ W, Below w.heap.size w W → Calls Tryz.prog 77 #[tv] W fun r w' => r = .returned (.bool true) ∧ Below W.heap.size W w'
theorem Fin.over {w0 w w' : World} {b : Nat} {tv cv ov : Value} (h : Fin w0 b tv cv ov w) (k : Below w.heap.size w w') : Fin w0 b tv cv ov w' :=
  ⟨by rw [k.block _ (lt_of_block h.cells)]; exact h.cells, thenBelow h.below k, fun W q => h.m1 W (thenBelow k q), fun W q => h.m2 W (thenBelow k q)⟩
theorem putL_all (ls : List (List ByteArray)) : putL ls ls.length = (ls.map List.length).mapIdx fun j n => marksL j 0 n := by
  apply List.ext_getElem?
  intro j
  unfold putL
  rw [List.getElem?_mapIdx, List.getElem?_mapIdx, List.getElem?_map]
  cases h : ls[j]? with
  | none => rfl
  | some l =>
    have hj := (List.getElem?_eq_some_iff.1 h).1
    simp [hj]
theorem text_grow {w0 w : World} {b : Nat} {tv cv : Value} {us cs : List Value} {ls ms : List (List ByteArray)} (h : Bk w0 [] b tv cv us cs (putL ls ls.length) ms w) (hs : ∀ l ∈ ls, l.length ≤ 1000) :
    Calls Tryz.prog 68 #[.pointer (some ⟨b, 0, none⟩)] w fun r w' => ∃ ov, r = .returned ov ∧ (∃ a n c, ov = .slice a n c) ∧ Fin w0 b tv cv ov w' := by
  have hul := h.ul
  rw [putL_length] at hul
  by_cases hn : ls.length = 0
  · obtain ⟨⟨a, c, e⟩, _⟩ := h.shapes
    rw [hul, hn] at e
    have hc := h.cell0
    rw [e] at hc
    refine (growTexts_empty w b a c hc).mono fun r w' ⟨h1, h2⟩ => ⟨_, h1, ⟨_, _, _, rfl⟩, ?_⟩
    subst h2
    refine ⟨h.cells, h.below, fun W _ => (markedTexts_empty W none 0).mono fun r w' ⟨q1, q2⟩ => ⟨q1, q2 ▸ Below.refl _ _⟩, fun W _ => ?_⟩
    rw [e]
    exact (markedTexts_empty W a c).mono fun r w' ⟨q1, q2⟩ => ⟨q1, q2 ▸ Below.refl _ _⟩
  · have hlk : Looks us (ls.map List.length) := fun i u n hu hn2 => by
      rw [List.getElem?_map] at hn2
      obtain ⟨l, hl, rfl⟩ := Option.map_eq_some_iff.1 hn2
      have hp : (putL ls ls.length)[i]? = some (marksL i 0 l.length) := by rw [putL_all]; simp [hl]
      refine ⟨hs l (List.mem_of_getElem? hl), ?_⟩
      rcases (h.ur_ hu hp).slice with ⟨e, h1, _⟩ | ⟨g, cap, e, _⟩
      · have h2 : (marksL i 0 l.length).length = 0 := h1
        rw [marksL_length] at h2
        exact ⟨none, 0, by rw [h2]; exact e, fun _ => rfl, fun q => absurd q (by omega)⟩
      · have e2 : u = .slice (some ⟨g, 0, none⟩) (marksL i 0 l.length).length cap := e
        rw [marksL_length] at e2
        exact ⟨_, cap, e2, (fun q => by cases q), fun _ => ⟨g, rfl⟩⟩
    have hr := h.rows
    rw [putL_all] at hr
    have hr2 : Rws w0 (restR (.slice none 0 0) tv [] us b cv [] (ls.map List.length) 0) w := by
      have hsub : (bl b (bookCells tv cv) 44 :: vRow tv us :: ([] ++ rowsOf (us.drop 0) (((ls.map List.length).mapIdx fun j n => marksL j 0 n).drop 0))).Sublist ([] ++ (bl b (bookCells tv cv) 44 :: vRow tv us :: vRow cv cs :: (rowsOf us ((ls.map List.length).mapIdx fun j n => marksL j 0 n) ++ rowsOf cs ms))) := by
        simp only [List.nil_append, List.drop_zero]
        exact List.Sublist.cons_cons _ (List.Sublist.cons_cons _ (List.Sublist.cons _ (List.sublist_append_left _ _)))
      exact (hr.sub hsub).add (Below.refl _ _) (x := vRow (.slice none 0 0) []) (World.ownsRow_nil _ _ _ _)
    refine (growTexts_some w0 w b tv cv us (ls.map List.length) hr2 hlk (by simpa using hul) (by have := h.few; rw [putL_length] at this; simpa using this) (by simp; omega)).mono fun r w' ⟨ov, gs, D, h1, h2, h3⟩ => ?_
    have hov := (h2.own (vRow ov gs) (by simp [restR]))
    have htv := (h2.own (vRow tv us) (by simp [restR]))
    have hgl := h3.1
    have hD : ∀ x ∈ D, x.At w' w0.heap.size := fun x hx => h2.own x (by simp [restR, hx])
    have hnl : (ls.map List.length).length = ls.length := by simp
    have LL1 : LL w' ov gs ((ls.map List.length).mapIdx fun j n => marksL j 0 (n + 72)) := by
      rcases hov.slice with ⟨_, q, _⟩ | ⟨g, cap, e, hb, _⟩
      · exact absurd (show gs.length = 0 from q) (by omega)
      · refine ⟨g, cap, ?_, (hov.lt g hb).2, ?_, fun i u hu => hov.cell hb hu, fun i u l hu hl => ?_⟩
        · have e2 : ov = .slice (some ⟨g, 0, none⟩) gs.length cap := e
          rw [e2, hgl]; simp
        · simp [hgl]
        · have hi := (List.getElem?_eq_some_iff.1 hu).1
          obtain ⟨gj, uj, nj, k1, k2, k3, k4⟩ := h3.2 i (by omega)
          rw [hu] at k1
          obtain rfl : u = gj := by simpa using k1
          rw [List.getElem?_mapIdx, k3] at hl
          obtain rfl : marksL i 0 (nj + 72) = l := by simpa using hl
          exact (k4 w' hD).1
    have LL2 : LL w' tv us ((ls.map List.length).mapIdx fun j n => marksL j 0 n) := by
      rcases htv.slice with ⟨_, q, _⟩ | ⟨g, cap, e, hb, _⟩
      · exact absurd (show us.length = 0 from q) (by omega)
      · refine ⟨g, cap, ?_, (htv.lt g hb).2, ?_, fun i u hu => htv.cell hb hu, fun i u l hu hl => ?_⟩
        · have e2 : tv = .slice (some ⟨g, 0, none⟩) us.length cap := e
          rw [e2, hul]; simp
        · simp [hul]
        · have hi := (List.getElem?_eq_some_iff.1 hu).1
          obtain ⟨gj, uj, nj, k1, k2, k3, k4⟩ := h3.2 i (by omega)
          rw [hu] at k2
          obtain rfl : u = uj := by simpa using k2
          rw [List.getElem?_mapIdx, k3] at hl
          obtain rfl : marksL i 0 nj = l := by simpa using hl
          exact (k4 w' hD).2
    have hfew := h.few
    rw [putL_length] at hfew
    refine ⟨ov, h1, ?_, h2.block (by simp [restR]), h2.below, fun W hW => ?_, fun W hW => ?_⟩
    · obtain ⟨g, cap, e, _⟩ := LL1
      exact ⟨_, _, _, e⟩
    · refine markedTexts_some W ov gs _ (LL1.below hW) (fun i l hl => ?_) (by simpa using hfew)
      rw [List.getElem?_mapIdx, List.getElem?_map] at hl
      cases hk : ls[i]? with
      | none => rw [hk] at hl; simp at hl
      | some l0 =>
        rw [hk] at hl
        obtain rfl : marksL i 0 (l0.length + 72) = l := by simpa using hl
        have := hs l0 (List.mem_of_getElem? hk)
        rw [marksL_length]
        exact ⟨by omega, rfl⟩
    · refine markedTexts_some W tv us _ (LL2.below hW) (fun i l hl => ?_) (by simpa using hfew)
      rw [List.getElem?_mapIdx, List.getElem?_map] at hl
      cases hk : ls[i]? with
      | none => rw [hk] at hl; simp at hl
      | some l0 =>
        rw [hk] at hl
        obtain rfl : marksL i 0 l0.length = l := by simpa using hl
        have := hs l0 (List.mem_of_getElem? hk)
        rw [marksL_length]
        exact ⟨by omega, rfl⟩

end Go.Proofs.YtaabepiddbnggaaGreat.PB
