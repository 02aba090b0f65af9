/-
  The book, Kids: its calls, whether the book keeps some lists or none.
-/
import Derived.Test.YthihjkdankbnjaaGreatK4Kids
import Derived.Test.YthihjkdankbnjaaGreatK5Kids
import Derived.Test.YthihjkdankbnjaaGreatK6Kids
namespace Go.Proofs.YthihjkdankbnjaaGreat.PK
open Go Go.RowKit Go.Lib

theorem stillKids_empty (w : World) (b : Nat) (a : Option Addr) (c : Nat) (h : w.cell? ⟨b, 6, none⟩ = some (.slice a 0 c)) :
    Calls Tryz.prog 43 #[.pointer (some ⟨b, 0, none⟩)] w fun r w' => r = .returned (.bool true) ∧ w = w' := by
  go_enter Tryz.func43, Tryz.ntmps43
  go_wp2
  refine wp_loop_rounds 1 ?_
  rw [rounds_succ]
  go_wp2
  go_ret
  exact ⟨rfl, rfl⟩
theorem putKids_empty (w : World) (b : Nat) (a : Option Addr) (c : Nat) (h : w.cell? ⟨b, 6, none⟩ = some (.slice a 0 c)) :
    Calls Tryz.prog 54 #[.pointer (some ⟨b, 0, none⟩)] w fun r w' => r = .returned (.tuple #[]) ∧ w = w' := by
  go_enter Tryz.func54, Tryz.ntmps54
  go_wp2
  refine wp_loop_rounds 1 ?_
  rw [rounds_succ]
  go_wp2
  go_end0
  exact ⟨rfl, rfl⟩
theorem growKids_empty (w : World) (b : Nat) (a : Option Addr) (c : Nat) (h : w.cell? ⟨b, 6, none⟩ = some (.slice a 0 c)) :
    Calls Tryz.prog 61 #[.pointer (some ⟨b, 0, none⟩)] w fun r w' => r = .returned (.slice none 0 0) ∧ w = w' := by
  go_enter Tryz.func61, Tryz.ntmps61
  go_wp2
  refine wp_loop_rounds 1 ?_
  rw [rounds_succ]
  go_wp2
  go_ret
  exact ⟨rfl, rfl⟩
theorem markedKids_empty (w : World) (a : Option Addr) (c : Nat) :
    Calls Tryz.prog 70 #[.slice a 0 c] w fun r w' => r = .returned (.bool true) ∧ w = w' := by
  go_enter Tryz.func70, Tryz.ntmps70
  go_wp2
  refine wp_loop_rounds 1 ?_
  rw [rounds_succ]
  go_wp2
  go_ret
  exact ⟨rfl, rfl⟩

section
variable {w0 w : World} {R : List Row} {b : Nat} {bs : List Value} {tv cv : Value} {us cs : List Value} {ls ms : List (List (List Value))}
theorem kKids_still (h : Bk kKids w0 R b bs tv cv us cs ls ls w) : Calls Tryz.prog 43 #[.pointer (some ⟨b, 0, none⟩)] w fun r w' => r = .returned (.bool true) ∧ Bk kKids w0 R b bs tv cv us cs ls ls w' := by
  by_cases hn : ls.length = 0
  · obtain ⟨⟨a, c, e⟩, _⟩ := h.shapes
    rw [h.ul, hn] at e
    have hc : w.cell? ⟨b, 6, none⟩ = some tv := h.cell0
    rw [e] at hc
    exact (stillKids_empty w b a c hc).mono fun r w' ⟨h1, h2⟩ => ⟨h1, h2 ▸ h⟩
  · exact (stillKids_some w0 w b bs tv cv us cs R ls h (by omega)).mono fun r w' ⟨h1, h2⟩ => ⟨h1, h.over h2⟩
theorem kKids_put (h : Bk kKids w0 R b bs tv cv us cs ls ms w) : Calls Tryz.prog 54 #[.pointer (some ⟨b, 0, none⟩)] w fun r w' => r = .returned (.tuple #[]) ∧ Bk kKids w0 R b bs tv cv us cs (putL kKids ls ls.length) ms w' := by
  by_cases hn : ls.length = 0
  · obtain ⟨⟨a, c, e⟩, _⟩ := h.shapes
    rw [h.ul, hn] at e
    have hc : w.cell? ⟨b, 6, none⟩ = some tv := h.cell0
    rw [e] at hc
    have el : putL kKids ls ls.length = ls := by rw [hn, putL_zero]
    rw [el]
    exact (putKids_empty w b a c hc).mono fun r w' ⟨h1, h2⟩ => ⟨h1, h2 ▸ h⟩
  · exact putKids_some w0 w R b bs tv cv us cs ls ms h (by omega)
/-- grown: what is told, its rows; both read as marks wherever these rows stand -/
def GrewKids (w0 : World) (R : List Row) (b : Nat) (bs : List Value) (tv : Value) (e : Ending) (w' : World) : Prop :=
  ∃ ov rs, e = .returned ov ∧ (∃ a n c, ov = .slice a n c) ∧ Rws w0 (rs ++ (R ++ [bl b bs 36])) w' ∧ ∀ W, (∀ x ∈ rs, x.At W w0.heap.size) → (Calls Tryz.prog 70 #[ov] W fun r w' => r = .returned (.bool true) ∧ Below W.heap.size W w') ∧ Calls Tryz.prog 70 #[tv] W fun r w' => r = .returned (.bool true) ∧ Below W.heap.size W w'
theorem kKids_grow (h : Bk kKids w0 R b bs tv cv us cs (putL kKids ls ls.length) ms w) (hs : ∀ l ∈ ls, l.length ≤ 4000) :
    Calls Tryz.prog 61 #[.pointer (some ⟨b, 0, none⟩)] w (GrewKids w0 R b bs tv) := by
  have hul := h.ul
  rw [putL_length] at hul
  by_cases hn : ls.length = 0
  · obtain ⟨⟨a, c, e⟩, _⟩ := h.shapes
    rw [hul, hn] at e
    have hc : w.cell? ⟨b, 6, none⟩ = some tv := h.cell0
    rw [e] at hc
    refine (growKids_empty w b a c hc).mono fun r w' ⟨h1, h2⟩ => ⟨_, [], h1, ⟨_, _, _, rfl⟩, ?_, fun W _ => ⟨(markedKids_empty W none 0).mono fun r w' ⟨q1, q2⟩ => ⟨q1, q2 ▸ Below.refl _ _⟩, ?_⟩⟩
    · subst h2
      refine h.rows.sub ?_
      rw [List.nil_append]
      exact (List.Sublist.refl R).append ((List.nil_sublist _).cons_cons _)
    · rw [e]
      exact (markedKids_empty W a c).mono fun r w' ⟨q1, q2⟩ => ⟨q1, q2 ▸ Below.refl _ _⟩
  · have hlk : Looks us (ls.map List.length) := fun i u n hu hn2 => by
      rw [List.getElem?_map] at hn2
      obtain ⟨l, hl, rfl⟩ := Option.map_eq_some_iff.1 hn2
      have hp : (putL kKids ls ls.length)[i]? = some (marksL kKids i 0 l.length) := by rw [putL_all]; simp [hl]
      refine ⟨hs l (List.mem_of_getElem? hl), ?_⟩
      rcases (h.ur_ hu hp).slice with ⟨e, h1, _⟩ | ⟨g, cap, e, _⟩
      · have h2 : (marksL kKids i 0 l.length).length = 0 := h1
        rw [marksL_length] at h2
        exact ⟨none, 0, by rw [h2]; exact e, fun _ => rfl, fun q => absurd q (by omega)⟩
      · have e2 : u = .slice (some ⟨g, 0, none⟩) (marksL kKids i 0 l.length).length cap := e
        rw [marksL_length] at e2
        exact ⟨_, cap, e2, (fun q => by cases q), fun _ => ⟨g, rfl⟩⟩
    have hr := h.rows
    unfold kRows at hr
    rw [putL_all] at hr
    have hr2 : Rws w0 (restR kKids (.slice none 0 0) tv [] us (R ++ [bl b bs 36]) [] (ls.map List.length) 0) w := by
      unfold restR
      rw [List.nil_append, List.drop_zero, List.drop_zero]
      generalize rowsOf kKids us ((ls.map List.length).mapIdx fun j n => marksL kKids j 0 n) = Y at hr ⊢
      have hsub : (R ++ (bl b bs 36 :: vRow kKids tv us :: Y)).Sublist (R ++ (bl b bs 36 :: vRow kKids tv us :: vRow kKids cv cs :: (Y ++ rowsOf kKids cs ms))) :=
        (List.Sublist.refl R).append (List.Sublist.cons_cons _ (List.Sublist.cons_cons _ (List.Sublist.cons _ (List.sublist_append_left _ _))))
      have h3 := (hr.sub hsub).perm (k := vRow kKids tv us :: (Y ++ (R ++ [bl b bs 36]))) (by
        have e1 : R ++ (bl b bs 36 :: vRow kKids tv us :: Y) = (R ++ [bl b bs 36]) ++ (vRow kKids tv us :: Y) := by simp
        rw [e1]
        exact List.perm_append_comm)
      exact h3.add (Below.refl _ _) (x := vRow kKids (.slice none 0 0) []) (World.ownsRow_nil _ _ _ _)
    refine (growKids_some w0 w _ b bs tv us (ls.map List.length) hr2 (by simp) h.c0 hlk (by simpa using hul) (by have := h.few; rw [putL_length] at this; simpa using this) (by simp; omega)).mono fun r w' ⟨ov, gs, D, h1, h2, h3⟩ => ?_
    have hgl := h3.1
    have hnl : (ls.map List.length).length = ls.length := by simp
    have hfew := h.few
    rw [putL_length] at hfew
    have hovs : ∃ a n c, ov = .slice a n c := owns_shape (h2.own (vRow kKids ov gs) (by simp [restR]))
    have hdrop : rowsOf kKids (us.drop (ls.map List.length).length) (((ls.map List.length).mapIdx fun j n => marksL kKids j 0 n).drop (ls.map List.length).length) = [] := by
      rw [List.drop_of_length_le (by rw [hnl]; omega)]
      rfl
    have hrs : Rws w0 ((vRow kKids ov gs :: vRow kKids tv us :: D) ++ (R ++ [bl b bs 36])) w' := by
      unfold restR at h2
      rw [hdrop, List.append_nil] at h2
      exact h2
    refine ⟨ov, _, h1, hovs, hrs, fun W hW => ?_⟩
    have hov : (vRow kKids ov gs).At W w0.heap.size := hW _ (by simp)
    have htv : (vRow kKids tv us).At W w0.heap.size := hW _ (by simp)
    have hD : ∀ x ∈ D, x.At W w0.heap.size := fun x hx => hW x (by simp [hx])
    have LL1 : LL kKids W ov gs ((ls.map List.length).mapIdx fun j n => marksL kKids j 0 (n + 72)) := by
      rcases hov.slice with ⟨_, q, _⟩ | ⟨g, cap, e, hb, _⟩
      · exact absurd (show gs.length = 0 from q) (by omega)
      · refine ⟨g, cap, ?_, (hov.lt g hb).2, ?_, fun i u hu => hov.cell hb hu, fun i u l hu hl => ?_⟩
        · have e2 : ov = .slice (some ⟨g, 0, none⟩) gs.length cap := e
          rw [e2, hgl]; simp
        · simp [hgl]
        · have hi := (List.getElem?_eq_some_iff.1 hu).1
          obtain ⟨gj, uj, nj, k1, k2, k3, k4⟩ := h3.2 i (by omega)
          rw [hu] at k1
          obtain rfl : u = gj := by simpa using k1
          rw [List.getElem?_mapIdx, k3] at hl
          obtain rfl : marksL kKids i 0 (nj + 72) = l := by simpa using hl
          exact (k4 W hD).1
    have LL2 : LL kKids W tv us ((ls.map List.length).mapIdx fun j n => marksL kKids j 0 n) := by
      rcases htv.slice with ⟨_, q, _⟩ | ⟨g, cap, e, hb, _⟩
      · exact absurd (show us.length = 0 from q) (by omega)
      · refine ⟨g, cap, ?_, (htv.lt g hb).2, ?_, fun i u hu => htv.cell hb hu, fun i u l hu hl => ?_⟩
        · have e2 : tv = .slice (some ⟨g, 0, none⟩) us.length cap := e
          rw [e2, hul]; simp
        · simp [hul]
        · have hi := (List.getElem?_eq_some_iff.1 hu).1
          obtain ⟨gj, uj, nj, k1, k2, k3, k4⟩ := h3.2 i (by omega)
          rw [hu] at k2
          obtain rfl : u = uj := by simpa using k2
          rw [List.getElem?_mapIdx, k3] at hl
          obtain rfl : marksL kKids i 0 nj = l := by simpa using hl
          exact (k4 W hD).2
    refine ⟨markedKids_some W ov gs _ LL1 (fun i l hl => ?_) (by simpa using hfew), markedKids_some W tv us _ LL2 (fun i l hl => ?_) (by simpa using hfew)⟩
    · rw [List.getElem?_mapIdx, List.getElem?_map] at hl
      cases hk : ls[i]? with
      | none => rw [hk] at hl; simp at hl
      | some l0 =>
        rw [hk] at hl
        obtain rfl : marksL kKids i 0 (l0.length + 72) = l := by simpa using hl
        have := hs l0 (List.mem_of_getElem? hk)
        rw [marksL_length]
        exact ⟨by omega, rfl⟩
    · rw [List.getElem?_mapIdx, List.getElem?_map] at hl
      cases hk : ls[i]? with
      | none => rw [hk] at hl; simp at hl
      | some l0 =>
        rw [hk] at hl
        obtain rfl : marksL kKids i 0 l0.length = l := by simpa using hl
        have := hs l0 (List.mem_of_getElem? hk)
        rw [marksL_length]
        exact ⟨by omega, rfl⟩
end

end Go.Proofs.YthihjkdankbnjaaGreat.PK
