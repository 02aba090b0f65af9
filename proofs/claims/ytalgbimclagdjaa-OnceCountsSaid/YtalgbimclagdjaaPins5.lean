/-
  Package once's Pins, in the words of a list of pins in whatever order.
-/
import Derived.Test.YtalgbimclagdjaaPins4
namespace Go.Proofs.Ytalgbimclagdjaa.P3
open Go Go.RowKit Go.Lib Go.Maps Go.ChangeMaps Go.MapKept

/-- the least number: as one looks at all of them -/
def least : PinL → Int
  | [] => 0
  | p :: r => r.foldl (fun a q => if q.1 < a then q.1 else a) p.1
theorem foldl_least (r : PinL) : ∀ a : Int, (r.foldl (fun a q => if q.1 < a then q.1 else a) a ≤ a) ∧ (∀ q ∈ r, r.foldl (fun a q => if q.1 < a then q.1 else a) a ≤ q.1) ∧
    (r.foldl (fun a q => if q.1 < a then q.1 else a) a = a ∨ ∃ q ∈ r, r.foldl (fun a q => if q.1 < a then q.1 else a) a = q.1) := by
  induction r with
  | nil => intro a; exact ⟨Int.le_refl _, by simp, .inl rfl⟩
  | cons p r ih =>
    intro a
    simp only [List.foldl_cons]
    obtain ⟨h1, h2, h3⟩ := ih (if p.1 < a then p.1 else a)
    have e : (if p.1 < a then p.1 else a) ≤ a ∧ (if p.1 < a then p.1 else a) ≤ p.1 ∧ ((if p.1 < a then p.1 else a) = a ∨ (if p.1 < a then p.1 else a) = p.1) := by
      split <;> omega
    refine ⟨by omega, fun q hq => ?_, ?_⟩
    · rcases List.mem_cons.1 hq with rfl | hq
      · omega
      · exact h2 q hq
    · rcases h3 with h3 | ⟨q, hq, h3⟩
      · rcases e.2.2 with e' | e'
        · exact .inl (by omega)
        · exact .inr ⟨p, List.mem_cons_self, by omega⟩
      · exact .inr ⟨q, List.mem_cons_of_mem _ hq, h3⟩
theorem least_le (l : PinL) : ∀ q ∈ l, least l ≤ q.1 := by
  cases l with
  | nil => simp
  | cons p r =>
    intro q hq
    obtain ⟨h1, h2, _⟩ := foldl_least r p.1
    rcases List.mem_cons.1 hq with rfl | hq
    · exact h1
    · exact h2 q hq
theorem least_mem (l : PinL) (h : l ≠ []) : ∃ q ∈ l, least l = q.1 := by
  cases l with
  | nil => exact absurd rfl h
  | cons p r =>
    obtain ⟨_, _, h3⟩ := foldl_least r p.1
    rcases h3 with h3 | ⟨q, hq, h3⟩
    · exact ⟨p, List.mem_cons_self, h3⟩
    · exact ⟨q, List.mem_cons_of_mem _ hq, h3⟩
theorem num_mem {ps : PinL} {k : Nat} (hk : k < ps.length) : ps.getD k (0, 0) ∈ ps := by
  rw [List.getD_eq_getElem?_getD, List.getElem?_eq_getElem hk, Option.getD_some]
  exact List.getElem_mem hk
theorem mem_num {ps : PinL} {q : Int × Int} (h : q ∈ ps) : ∃ k, k < ps.length ∧ ps.getD k (0, 0) = q := by
  obtain ⟨k, hk, e⟩ := List.getElem_of_mem h
  exact ⟨k, hk, by rw [List.getD_eq_getElem?_getD, List.getElem?_eq_getElem hk, Option.getD_some, e]⟩
theorem heap_least {ps l : PinL} (hO : Ord (num ps) ps.length) (hp : ps.Perm l) (h0 : 0 < ps.length) : num ps 0 = least l := by
  have hne : l ≠ [] := by
    rintro rfl
    have := hp.length_eq
    simp at this
    rw [this] at h0
    simp at h0
  obtain ⟨q, hq, e⟩ := least_mem l hne
  have h1 := least_le l (ps.getD 0 (0, 0)) (hp.mem_iff.1 (num_mem h0))
  obtain ⟨k, hk, ek⟩ := mem_num (hp.mem_iff.2 hq)
  have h2 := ord_least hO k hk
  have e2 : num ps k = q.1 := by unfold num; rw [ek]
  have e3 : num ps 0 = (ps.getD 0 (0, 0)).1 := rfl
  omega

/-- the pins but those of that id -/
def without (id : Int) (l : PinL) : PinL := l.filter fun p => p.2 != id
theorem without_len (id : Int) (l : PinL) : (without id l).length ≤ l.length := List.length_filter_le _ _

theorem pins_len (w : World) {lo b N : Nat} {l : PinL} (h : Pinned3 lo w b N l) :
    Calls Try.prog 24 #[.pointer (some ⟨b, 0, none⟩)] w fun e w' => e = .returned (.int .i64 l.length) ∧ Pinned3 lo w' b N l ∧ FrP lo b w w' := by
  obtain ⟨cb, ps, h, hp⟩ := h
  rw [← hp.length_eq]
  exact (pinsLen0 w h).mono fun _ _ ⟨he, ⟨cb', h'⟩, hf⟩ => ⟨he, ⟨cb', ps, h', hp⟩, hf⟩

theorem pins_least (w : World) {lo b N : Nat} {l : PinL} (h : Pinned3 lo w b N l) :
    Calls Try.prog 22 #[.pointer (some ⟨b, 0, none⟩)] w fun e w' => e = .returned (.tuple #[.int .i64 (least l), .bool (decide (0 < l.length))]) ∧ Pinned3 lo w' b N l ∧ FrP lo b w w' := by
  obtain ⟨cb, ps, h, hp⟩ := h
  by_cases h0 : 0 < ps.length
  · rw [← heap_least h.ord hp h0, ← hp.length_eq, decide_eq_true h0]
    exact (pinsLeast_some w h h0).mono fun _ _ ⟨he, ⟨cb', h'⟩, hf⟩ => ⟨he, ⟨cb', ps, h', hp⟩, hf⟩
  · have e : ps = [] := List.eq_nil_of_length_eq_zero (by omega)
    have el : l = [] := by subst e; exact List.nil_perm.1 hp
    rw [← hp.length_eq, decide_eq_false h0, el]
    exact (pinsLeast_none w h e).mono fun _ _ ⟨he, ⟨cb', h'⟩, hf⟩ => ⟨he, ⟨cb', ps, h', el ▸ hp⟩, hf⟩

theorem pins_pin (w : World) {lo b N : Nat} {l : PinL} (h : Pinned3 lo w b N l) (hN : N < 1000000) (x : Int) :
    Calls Try.prog 20 #[.pointer (some ⟨b, 0, none⟩), .int .i64 x] w fun e w' => e = .returned (.int .i64 ((N : Int) + 1)) ∧ Pinned3 lo w' b (N + 1) (l ++ [(x, (N : Int) + 1)]) ∧ FrP lo b w w' := by
  obtain ⟨cb, ps, h, hp⟩ := h
  exact (pinsPin0 w h hN x).mono fun _ _ ⟨he, ⟨cb', ps', h', hp'⟩, hf⟩ => ⟨he, ⟨cb', ps', h', hp'.trans (hp.append_right _)⟩, hf⟩

theorem without_none {id : Int} {l : PinL} (h : ∀ q ∈ l, q.2 ≠ id) : without id l = l := List.filter_eq_self.2 fun q hq => by simpa using h q hq

theorem pins_drop (w : World) {lo b N : Nat} {l : PinL} (h : Pinned3 lo w b N l) (id : Int) (hw : (Lit.int .i64 id).wf = true) :
    Calls Try.prog 21 #[.pointer (some ⟨b, 0, none⟩), .int .i64 id] w fun e w' => e = .returned (.bool (decide ((without id l).length < l.length))) ∧ Pinned3 lo w' b N (without id l) ∧ FrP lo b w w' := by
  obtain ⟨cb, ps, h, hp⟩ := h
  have hno : (∀ q ∈ ps, q.2 ≠ id) → without id l = l ∧ decide ((without id l).length < l.length) = false := fun hq => by
    have e := without_none (id := id) (l := l) (fun q hql => hq q (hp.mem_iff.2 hql))
    exact ⟨e, decide_eq_false (by rw [e]; omega)⟩
  rcases h.q with ⟨he, _, _, _, h4⟩ | ⟨r, m, cap, D, hr, hm, hq⟩
  · obtain ⟨e1, e2⟩ := hno (by rw [he]; simp)
    rw [e2, e1]
    have hl := Maps.look_nil (P := Try.prog) (w := w.setCell ⟨b, 0, none⟩ (.int .i32 1)) true lawI Try.underlying57 (zeroI _) (keyI hw)
    exact (pinsDrop_no w h id 0 none h4 (by simpa using hl)).mono fun _ _ ⟨he, ⟨cb', h'⟩, hf⟩ => ⟨he, ⟨cb', ps, h', hp⟩, hf⟩
  · by_cases hh : Maps.has D (kl id) = true
    · obtain ⟨k, hk, hki⟩ := hq.ties.2 id hh
      obtain ⟨p, hpe⟩ : ∃ p, ps.getD k (0, 0) = p := ⟨_, rfl⟩
      have hpid : p.2 = id := by rw [← hki]; unfold idn; rw [hpe]
      subst hpid
      refine (pinsDrop_yes w h hr hm hq k hk p hpe).mono ?_
      rintro e w' ⟨rfl, ⟨cb', ps', h', hperm⟩, hf⟩
      -- all ids are apart
      have hone : ∀ q ∈ ps', q.2 ≠ p.2 := by
        have hnd : (ps.map (·.2)).Nodup := by
          rw [List.nodup_iff_pairwise_ne, List.pairwise_map, List.pairwise_iff_getElem]
          intro i j hi hj hij e
          have e1 : idn ps i = idn ps j := by
            unfold idn
            rw [List.getD_eq_getElem?_getD, List.getD_eq_getElem?_getD, List.getElem?_eq_getElem hi, List.getElem?_eq_getElem hj]
            exact e
          have := hq.ties.inj hi hj e1
          omega
        have hnd2 := (hperm.map (·.2)).nodup_iff.2 hnd
        rw [List.map_append, List.nodup_append] at hnd2
        intro q hq' e
        exact hnd2.2.2 q.2 (List.mem_map_of_mem hq') p.2 (by simp) e
      have hw1 : (without p.2 (ps' ++ [p])).Perm (without p.2 l) := (hperm.trans hp).filter _
      have hw2 : without p.2 (ps' ++ [p]) = ps' := by
        unfold without
        rw [List.filter_append]
        have := without_none hone
        unfold without at this
        rw [this]
        simp
      rw [hw2] at hw1
      have hlen := (hperm.trans hp).length_eq
      simp only [List.length_append, List.length_cons, List.length_nil] at hlen
      refine ⟨?_, ⟨cb', ps', h', hw1⟩, hf⟩
      rw [decide_eq_true (by rw [← hw1.length_eq]; omega)]
    · have hno' : ∀ q ∈ ps, q.2 ≠ id := by
        intro q hql e
        obtain ⟨k, hk, ek⟩ := mem_num hql
        have := (hq.ties.1 k hk).1
        have e2 : idn ps k = id := by unfold idn; rw [ek]; exact e
        rw [e2] at this
        exact hh this
      obtain ⟨e1, e2⟩ := hno hno'
      rw [e2, e1]
      have ho : Only b w (w.setCell ⟨b, 0, none⟩ (.int .i32 1)) := (Only.refl b w).setCell 0 _
      obtain ⟨c, hrun, _⟩ := look_has (fr_map hq.map (Fr.only (S := (· = b)) ho rfl) (fun e => hq.bm e.symm)) hw
      have hf0 : Maps.has D (kl id) = false := by simpa using hh
      rw [hf0] at hrun
      exact (pinsDrop_no w h id c (some m) hq.c4 hrun).mono fun _ _ ⟨he, ⟨cb', h'⟩, hf⟩ => ⟨he, ⟨cb', ps, h', hp⟩, hf⟩

/-- a zero one -/
theorem pins_new (w : World) : Pinned3 w.heap.size (w.alloc (.cells #[.int .i32 0, .int .u32 0, .int .i64 0, .slice none 0 0, .map none] 61)) w.heap.size 0 [] :=
  ⟨_, [], { q := .inl ⟨rfl, rfl, heap_alloc_new w _, rfl, rfl⟩, c0 := rfl, c2 := rfl, ord := fun k _ hk => absurd hk (Nat.not_lt_zero _), len := Nat.le_refl _, room := by omega, lo := Nat.le_refl _ }, .refl _⟩

set_option maxRecDepth 100000 in
theorem nil_pin (w : World) (x : Int) : Calls Try.prog 20 #[.pointer none, .int .i64 x] w fun e w' => e = .returned (.int .i64 0) ∧ w = w' := by
  go_enter_defers Try.func20, Try.ntmps20
  go_wp2
  exact ⟨_, results_tmp rfl _ _ _, rfl, rfl⟩
set_option maxRecDepth 100000 in
theorem nil_drop (w : World) (x : Int) : Calls Try.prog 21 #[.pointer none, .int .i64 x] w fun e w' => e = .returned (.bool false) ∧ w = w' := by
  go_enter_defers Try.func21, Try.ntmps21
  go_wp2
  exact ⟨_, results_tmp rfl _ _ _, rfl, rfl⟩
set_option maxRecDepth 100000 in
theorem nil_len (w : World) : Calls Try.prog 24 #[.pointer none] w fun e w' => e = .returned (.int .i64 0) ∧ w = w' := by
  go_enter_defers Try.func24, Try.ntmps24
  go_wp2
  exact ⟨_, results_tmp rfl _ _ _, rfl, rfl⟩
set_option maxRecDepth 100000 in
theorem nil_least (w : World) : Calls Try.prog 22 #[.pointer none] w fun e w' => e = .returned (.tuple #[.int .i64 0, .bool false]) ∧ w = w' := by
  go_enter_defers Try.func22, Try.ntmps22
  go_wp2
  exact ⟨_, results_tmp2 rfl _ _ _, rfl, rfl⟩

end Go.Proofs.Ytalgbimclagdjaa.P3
