/-
  Lists of free ids, said without a world: what is free, what waits, what is kept by every call.
-/
import Derived.Test.YtoiaamijjcjjiaaF6
namespace Go.Proofs.Ytoiaamijjcjjiaa.P7
open Go Go.RowKit Go.Lib Go.Proofs.Ytoiaamijjcjjiaa.PK

/-- some of those that wait are put into a list -/
def putAll (q : Int × Int → Bool) (W : List (Int × Int)) (o : List Int) : List Int := W.foldl (fun o p => if q p then putS o p.2 else o) o
theorem putAll_mem {q : Int × Int → Bool} {x : Int} : ∀ {W : List (Int × Int)} {o : List Int}, x ∈ putAll q W o ↔ x ∈ o ∨ ∃ p ∈ W, q p = true ∧ p.2 = x
  | [], o => by simp [putAll]
  | p :: W, o => by
    have h := putAll_mem (q := q) (x := x) (W := W) (o := if q p then putS o p.2 else o)
    show x ∈ putAll q W (if q p then putS o p.2 else o) ↔ _
    rw [h]
    by_cases e : q p = true
    · rw [if_pos e, put_mem]
      constructor
      · rintro ((h1 | h1) | ⟨y, h1, h2, h3⟩)
        · exact .inl h1
        · exact .inr ⟨p, List.mem_cons_self, e, h1.symm⟩
        · exact .inr ⟨y, List.mem_cons_of_mem _ h1, h2, h3⟩
      · rintro (h1 | ⟨y, h1, h2, h3⟩)
        · exact .inl (.inl h1)
        · rcases List.mem_cons.1 h1 with rfl | h1
          · exact .inl (.inr h3.symm)
          · exact .inr ⟨y, h1, h2, h3⟩
    · rw [if_neg e]
      constructor
      · rintro (h1 | ⟨y, h1, h2, h3⟩)
        · exact .inl h1
        · exact .inr ⟨y, List.mem_cons_of_mem _ h1, h2, h3⟩
      · rintro (h1 | ⟨y, h1, h2, h3⟩)
        · exact .inl h1
        · rcases List.mem_cons.1 h1 with rfl | h1
          · exact absurd h2 e
          · exact .inr ⟨y, h1, h2, h3⟩
theorem putAll_rising {q : Int × Int → Bool} : ∀ {W : List (Int × Int)} {o : List Int}, Rising o → Rising (putAll q W o)
  | [], _, h => h
  | p :: W, o, h => by
    show Rising (putAll q W (if q p then putS o p.2 else o))
    split
    · exact putAll_rising (put_rising h)
    · exact putAll_rising h
theorem low_hit : ∀ {l : List Int} {x : Int}, Rising l → x ∈ l → l[lowN l x]? = some x
  | [], x, _, h => by simp at h
  | z :: l, x, hr, h => by
    have hr' := List.pairwise_cons.1 hr
    unfold lowN
    by_cases hz : z < x
    · have hx : x ∈ l := by
        rcases List.mem_cons.1 h with e | q
        · omega
        · exact q
      rw [List.takeWhile_cons_of_pos (by simpa using hz), List.length_cons, List.getElem?_cons_succ]
      exact low_hit hr'.2 hx
    · rw [List.takeWhile_cons_of_neg (by simpa using hz), List.length_nil, List.getElem?_cons_zero]
      rcases List.mem_cons.1 h with e | q
      · rw [e]
      · have := hr'.1 x q; omega
theorem put_old {l : List Int} {x : Int} (h : Rising l) (hx : x ∈ l) : putS l x = l := by
  unfold putS
  rw [if_pos (low_hit h hx)]
theorem put_new {l : List Int} {x : Int} (hx : x ∉ l) : (putS l x).length = l.length + 1 := by
  unfold putS
  rw [if_neg (fun e => hx (List.mem_of_getElem? e))]
  have := low_le l x
  simp only [List.length_append, List.length_take, List.length_drop, List.length_singleton]
  omega
theorem putAll_len_le {q : Int × Int → Bool} (W : List (Int × Int)) (o : List Int) : (putAll q W o).length ≤ o.length + (W.filter q).length := by
  induction W generalizing o with
  | nil => simp [putAll]
  | cons p W ih =>
    show (putAll q W (if q p then putS o p.2 else o)).length ≤ _
    have h := ih (if q p then putS o p.2 else o)
    by_cases e : q p = true
    · rw [if_pos e] at h ⊢
      rw [List.filter_cons_of_pos e, List.length_cons]
      have := put_len o p.2
      omega
    · rw [if_neg e] at h ⊢
      rw [List.filter_cons_of_neg e]
      exact h
/-- all that wait are other ids: as many more -/
theorem putAll_len {q : Int × Int → Bool} : ∀ {W : List (Int × Int)} {o : List Int}, (∀ p ∈ W, q p = true → p.2 ∉ o) → (W.map Prod.snd).Nodup → (putAll q W o).length = o.length + (W.filter q).length
  | [], o, _, _ => by simp [putAll]
  | p :: W, o, h, hn => by
    show (putAll q W (if q p then putS o p.2 else o)).length = _
    have hn' := List.nodup_cons.1 (show (p.2 :: W.map Prod.snd).Nodup from hn)
    by_cases e : q p = true
    · rw [if_pos e, putAll_len (fun y hy hq hm => ?_) hn'.2, put_new (h p List.mem_cons_self e), List.filter_cons_of_pos e, List.length_cons]
      · omega
      · rcases put_mem.1 hm with h1 | h1
        · exact h y (List.mem_cons_of_mem _ hy) hq h1
        · exact hn'.1 (by rw [← h1]; exact List.mem_map_of_mem hy)
    · rw [if_neg e, putAll_len (fun y hy hq hm => h y (List.mem_cons_of_mem _ hy) hq hm) hn'.2, List.filter_cons_of_neg e]
theorem all_eq (F : FM) : F.all = putAll (fun _ => true) F.W F.L := by unfold FM.all putAll; simp
theorem pend_eq (F : FM) (tx : Int) : F.pend tx = putAll (fun p => decide (p.1 = tx)) F.W [] := by unfold FM.pend putAll; simp
theorem relL_eq (F : FM) (t : Int) : F.relL t = putAll (fun p => decide (p.1 < t)) F.W F.L := by unfold FM.relL putAll; simp
theorem all_mem {F : FM} {x : Int} : x ∈ F.all ↔ x ∈ F.L ∨ ∃ p ∈ F.W, p.2 = x := by rw [all_eq, putAll_mem]; simp
theorem pend_mem {F : FM} {tx x : Int} : x ∈ F.pend tx ↔ ∃ p ∈ F.W, p.1 = tx ∧ p.2 = x := by rw [pend_eq, putAll_mem]; simp
theorem relL_mem {F : FM} {t x : Int} : x ∈ F.relL t ↔ x ∈ F.L ∨ ∃ p ∈ F.W, p.1 < t ∧ p.2 = x := by rw [relL_eq, putAll_mem]; simp
theorem relW_mem {t : Int} {W : List (Int × Int)} {p : Int × Int} : p ∈ relW t W ↔ p ∈ W ∧ ¬ p.1 < t := by unfold relW; rw [List.mem_filter]; simp
theorem dropN_mem {L : List Int} {a x : Int} {n : Nat} : x ∈ dropN L a n ↔ x ∈ L ∧ ¬ (a ≤ x ∧ x < a + (n : Int)) := by
  unfold dropN
  rw [List.mem_filter]
  constructor
  · rintro ⟨h, k⟩
    refine ⟨h, fun e => ?_⟩
    rw [decide_eq_true e] at k
    cases k
  · rintro ⟨h, k⟩
    exact ⟨h, by rw [decide_eq_false k]; rfl⟩

/-- what holds of every list of free ids -/
structure Fine (F : FM) : Prop where
  rise : Rising F.L
  low : ∀ x ∈ F.L, 2 ≤ x ∧ x < F.pages
  lowW : ∀ p ∈ F.W, 2 ≤ p.2 ∧ p.2 < F.pages
  once : (F.W.map Prod.snd).Nodup
  apart : ∀ p ∈ F.W, p.2 ∉ F.L
  two : 2 ≤ F.pages
  most : F.pages ≤ 4000
theorem Fine.lv {F : FM} {u v : Value} (h : Fine F) : Fine { F with lv := u, wv := v } := ⟨h.rise, h.low, h.lowW, h.once, h.apart, h.two, h.most⟩
theorem Fine.all_rising {F : FM} (h : Fine F) : Rising F.all := by rw [all_eq]; exact putAll_rising h.rise
theorem pend_rising (F : FM) (tx : Int) : Rising (F.pend tx) := by rw [pend_eq]; exact putAll_rising List.Pairwise.nil
theorem Fine.pend_len {F : FM} (h : Fine F) (tx : Int) : (F.pend tx).length = (F.W.filter fun p => decide (p.1 = tx)).length := by
  rw [pend_eq, putAll_len (fun _ _ _ h9 => by cases h9) h.once]
  simp
theorem Fine.relL_len {F : FM} (h : Fine F) (t : Int) : (F.relL t).length = F.L.length + relN t F.W := by
  rw [relL_eq, putAll_len (fun p hp _ => h.apart p hp) h.once]
  rfl
theorem Fine.all_len {F : FM} (h : Fine F) : F.all.length = F.L.length + F.W.length := by
  rw [all_eq, putAll_len (fun p hp _ => h.apart p hp) h.once]
  simp
theorem Fine.give1 {F : FM} (h : Fine F) (tx x : Int) : Fine { F with W := F.give1 tx F.W x } := by
  unfold FM.give1
  by_cases e : F.ok F.W x
  · rw [if_pos e]
    obtain ⟨e1, e2, e3⟩ := e
    have e4 : ¬ (x ∈ F.L ∨ ∃ p ∈ F.W, p.2 = x) := fun q => e3 (all_mem.2 q)
    refine ⟨h.rise, h.low, fun p hp => ?_, ?_, fun p hp => ?_, h.two, h.most⟩
    · rcases List.mem_append.1 hp with q | q
      · exact h.lowW p q
      · rw [List.mem_singleton.1 q]; exact ⟨e1, e2⟩
    · rw [List.map_append, List.nodup_append]
      refine ⟨h.once, by simp, fun a ha b hb => ?_⟩
      obtain ⟨p, hp, rfl⟩ := List.mem_map.1 ha
      obtain rfl : b = x := by simpa using hb
      exact fun q => e4 (.inr ⟨p, hp, q⟩)
    · rcases List.mem_append.1 hp with q | q
      · exact h.apart p q
      · rw [List.mem_singleton.1 q]; exact fun q9 => e4 (.inl q9)
  · rw [if_neg e]; exact h
theorem Fine.give {F : FM} (tx : Int) : ∀ (ids : List Int) (W : List (Int × Int)), Fine { F with W := W } → Fine { F with W := ids.foldl (F.give1 tx) W }
  | [], _, h => h
  | x :: ids, W, h => Fine.give tx ids (F.give1 tx W x) (h.give1 (F := { F with W := W }) tx x)
theorem Fine.rel {F : FM} (h : Fine F) (t : Int) : Fine { F with L := F.relL t, W := relW t F.W } := by
  refine ⟨by show Rising (F.relL t); rw [relL_eq]; exact putAll_rising h.rise, fun x hx => ?_, fun p hp => h.lowW p (relW_mem.1 hp).1, h.once.sublist (List.Sublist.map _ List.filter_sublist), fun p hp hx => ?_, h.two, h.most⟩
  · rcases relL_mem.1 hx with q | ⟨p, hp, _, rfl⟩
    · exact h.low x q
    · exact h.lowW p hp
  · obtain ⟨h1, h2⟩ := relW_mem.1 hp
    rcases relL_mem.1 hx with q | ⟨y, hy, hy1, hy2⟩
    · exact h.apart p h1 q
    · obtain ⟨i, hi⟩ := List.getElem?_of_mem h1
      obtain ⟨j, hj⟩ := List.getElem?_of_mem hy
      have hij : i = j := by
        have e1 : (F.W.map Prod.snd)[i]? = some p.2 := by rw [List.getElem?_map, hi]; rfl
        have e2 : (F.W.map Prod.snd)[j]? = some p.2 := by rw [List.getElem?_map, hj, ← hy2]; rfl
        exact (List.getElem?_inj (by exact (List.getElem?_eq_some_iff.1 e1).1) h.once).1 (e1.trans e2.symm)
      subst hij
      rw [hi] at hj
      cases hj
      exact h2 hy1
theorem Fine.take {F : FM} (h : Fine F) (n : Int) : Fine (F.take n).1 := by
  unfold FM.take
  by_cases hb : n < 1 ∨ 20 < n
  · rw [if_pos hb]; exact h
  · rw [if_neg hb]
    rcases hh : F.hit n.toNat with _ | a
    · by_cases hp : 4000 < F.pages + n
      · simp only [if_pos hp]; exact h
      · simp only [if_neg hp]
        have h2 := h.two
        exact ⟨h.rise, fun x hx => by have := h.low x hx; exact ⟨this.1, by show x < F.pages + n; omega⟩, fun p hx => by have := h.lowW p hx; exact ⟨this.1, by show p.2 < F.pages + n; omega⟩, h.once, h.apart, by show 2 ≤ F.pages + n; omega, by show F.pages + n ≤ 4000; omega⟩
    · exact ⟨h.rise.sublist List.filter_sublist, fun x hx => h.low x (dropN_mem.1 hx).1, h.lowW, h.once, fun p hp hx => h.apart p hp (dropN_mem.1 hx).1, h.two, h.most⟩
theorem rel_total (F : FM) (t : Int) : (F.relL t).length + (relW t F.W).length ≤ F.L.length + F.W.length := by
  have h1 := putAll_len_le (q := fun p => decide (p.1 < t)) F.W F.L
  rw [← relL_eq] at h1
  have h2 : ∀ W : List (Int × Int), (W.filter fun p => decide (p.1 < t)).length + (relW t W).length = W.length := fun W => by
    induction W with
    | nil => rfl
    | cons p W ih =>
      unfold relW at ih ⊢
      by_cases e : p.1 < t
      · rw [List.filter_cons_of_pos (by simpa using e), List.filter_cons_of_neg (by simpa using e), List.length_cons, List.length_cons]; omega
      · rw [List.filter_cons_of_neg (by simpa using e), List.filter_cons_of_pos (by simpa using e), List.length_cons, List.length_cons]; omega
  have := h2 F.W
  omega
/-- a hit is a run -/
theorem hit_run {F : FM} {n : Nat} {a : Int} (h : F.hit n = some a) : a ∈ F.L ∧ allIn F.L a n := by
  unfold FM.hit at h
  have h2 := List.find?_some (p := fun a => decide (allIn F.L a n)) h
  exact ⟨List.mem_of_find?_eq_some h, of_decide_eq_true h2⟩
/-- .. the least -/
theorem hit_least {F : FM} {n : Nat} {b : Int} (hr : Rising F.L) (hb : b ∈ F.L) (h : allIn F.L b n) : ∃ a, F.hit n = some a ∧ a ≤ b := by
  rcases hh : F.hit n with _ | a
  · unfold FM.hit at hh
    rw [List.find?_eq_none] at hh
    have := hh b hb
    rw [decide_eq_true h] at this
    exact absurd rfl this
  · refine ⟨a, rfl, ?_⟩
    unfold FM.hit at hh
    obtain ⟨h1, us, vs, e, h2⟩ := List.find?_eq_some_iff_append.1 hh
    have hr2 : Rising (us ++ a :: vs) := e ▸ hr
    have hb2 : b ∈ us ++ a :: vs := e ▸ hb
    rcases List.mem_append.1 hb2 with q | q
    · have h3 := h2 b q
      rw [decide_eq_true h] at h3
      cases h3
    · rcases List.mem_cons.1 q with q | q
      · omega
      · have := (List.pairwise_cons.1 (List.pairwise_append.1 hr2).2.1).1 b q
        omega
/-- ids that may be given, all of them -/
theorem give_all {F : FM} (tx : Int) : ∀ (ids : List Int) (W : List (Int × Int)), ids.Nodup → (∀ x ∈ ids, 2 ≤ x ∧ x < F.pages ∧ x ∉ F.L ∧ ∀ p ∈ W, p.2 ≠ x) → ids.foldl (F.give1 tx) W = W ++ ids.map fun x => (tx, x)
  | [], W, _, _ => by simp
  | x :: ids, W, hn, h => by
    have hn' := List.nodup_cons.1 hn
    have hx := h x List.mem_cons_self
    have e : F.ok W x := ⟨hx.1, hx.2.1, fun q => by
      rcases all_mem.1 q with q | ⟨p, hp, q⟩
      · exact hx.2.2.1 q
      · exact hx.2.2.2 p hp q⟩
    have e1 : F.give1 tx W x = W ++ [(tx, x)] := by unfold FM.give1; rw [if_pos e]
    rw [List.foldl_cons, e1, give_all tx ids (W ++ [(tx, x)]) hn'.2 (fun y hy => ?_)]
    · simp
    · have h9 := h y (List.mem_cons_of_mem _ hy)
      refine ⟨h9.1, h9.2.1, h9.2.2.1, fun p hp => ?_⟩
      rcases List.mem_append.1 hp with q | q
      · exact h9.2.2.2 p q
      · rw [List.mem_singleton.1 q]
        rintro rfl
        exact hn'.1 hy
/-- all that is given is given for tx -/
theorem give_tx {F : FM} (tx : Int) : ∀ (ids : List Int) (W : List (Int × Int)), (∀ p ∈ W, p.1 = tx) → ∀ p ∈ ids.foldl (F.give1 tx) W, p.1 = tx
  | [], _, h => h
  | x :: ids, W, h => give_tx tx ids (F.give1 tx W x) fun p hp => by
    unfold FM.give1 at hp
    split at hp
    · rcases List.mem_append.1 hp with q | q
      · exact h p q
      · rw [List.mem_singleton.1 q]
    · exact h p hp

end Go.Proofs.Ytoiaamijjcjjiaa.P7
