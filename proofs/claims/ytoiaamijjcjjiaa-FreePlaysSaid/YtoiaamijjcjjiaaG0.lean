/-
  The program's list of free ids, without a world: pages by their ids, runs; beside the reference's.
-/
import Derived.Test.YtoiaamijjcjjiaaF8
namespace Go.Proofs.Ytoiaamijjcjjiaa.P7
open Go Go.RowKit Go.Lib Go.Proofs.Ytoiaamijjcjjiaa.PK

/-- a page that is free, or pending for a tx -/
structure Sp where
  id : Int
  fr : Bool
  tx : Int
def idsS (S : List Sp) : List Int := S.map Sp.id
def idAt (S : List Sp) (k : Nat) : Int := match S[k]? with | some s => s.id | none => 0
theorem idAt_of {S : List Sp} {k : Nat} {s : Sp} (h : S[k]? = some s) : idAt S k = s.id := by unfold idAt; rw [h]
/-- n free ones that follow each other, from the k-th on -/
def runAt (S : List Sp) (k n : Nat) : Prop := ∀ j, j < n → ∃ s, S[k + j]? = some s ∧ s.fr = true ∧ s.id = idAt S k + (j : Int)
theorem runAt_zero (S : List Sp) (k : Nat) : runAt S k 0 := fun j h => absurd h (Nat.not_lt_zero _)
theorem runAt_less {S : List Sp} {k n m : Nat} (h : runAt S k n) (hm : m ≤ n) : runAt S k m := fun j hj => h j (by omega)
theorem runAt_in {S : List Sp} {k n : Nat} (h : runAt S k n) (hn : 1 ≤ n) : k + n ≤ S.length := by
  obtain ⟨s, h1, _⟩ := h (n - 1) (by omega)
  have := (List.getElem?_eq_some_iff.1 h1).1
  omega
/-- the state of the search: i of them looked at; long are free in a row up to here -/
structure RunI (S : List Sp) (n i long : Nat) : Prop where
  le : long ≤ i
  lt : long < n
  run : runAt S (i - long) long
  most : ∀ m, m ≤ i → runAt S (i - m) m → m ≤ long
  none : ∀ k, k + n ≤ i → ¬ runAt S k n
theorem RunI.start (S : List Sp) {n : Nat} (h : 1 ≤ n) : RunI S n 0 0 := ⟨Nat.le_refl _, h, runAt_zero _ _, fun m hm _ => hm, fun k hk => absurd hk (by omega)⟩
/-- how long the run is then -/
def longS (S : List Sp) (i long : Nat) (s : Sp) : Nat := if s.fr = false then 0 else if 0 < long ∧ s.id = idAt S (i - 1) + 1 then long + 1 else 1
theorem RunI.step {S : List Sp} {n i long : Nat} {s : Sp} (h : RunI S n i long) (hs : S[i]? = some s) :
    longS S i long s ≤ i + 1 ∧ longS S i long s ≤ n ∧ runAt S (i + 1 - longS S i long s) (longS S i long s) ∧ (∀ m, m ≤ i + 1 → runAt S (i + 1 - m) m → m ≤ longS S i long s) := by
  have hle := h.le
  have hlt := h.lt
  unfold longS
  by_cases hf : s.fr = false
  · rw [if_pos hf]
    refine ⟨Nat.zero_le _, Nat.zero_le _, runAt_zero _ _, fun m hm hr => ?_⟩
    cases m with
    | zero => exact Nat.le_refl _
    | succ m =>
      obtain ⟨s', h1, h2, _⟩ := hr m (by omega)
      rw [show i + 1 - (m + 1) + m = i by omega, hs] at h1
      obtain rfl := Option.some.inj h1
      rw [hf] at h2
      cases h2
  · rw [if_neg hf]
    have hf' : s.fr = true := by cases q : s.fr <;> simp_all
    by_cases hc : 0 < long ∧ s.id = idAt S (i - 1) + 1
    · rw [if_pos hc]
      obtain ⟨h0, hid⟩ := hc
      refine ⟨by omega, by omega, fun j hj => ?_, fun m hm hr => ?_⟩
      · rw [show i + 1 - (long + 1) = i - long by omega]
        by_cases hj2 : j < long
        · exact h.run j hj2
        · obtain rfl : j = long := by omega
          obtain ⟨p, p1, p2, p3⟩ := h.run (j - 1) (by omega)
          rw [show i - j + (j - 1) = i - 1 by omega] at p1
          refine ⟨s, by rw [show i - j + j = i by omega]; exact hs, hf', ?_⟩
          rw [hid, idAt_of p1, p3]
          omega
      · cases m with
        | zero => exact Nat.zero_le _
        | succ m =>
          have h9 := h.most m (by omega) (by rw [show i - m = i + 1 - (m + 1) by omega]; exact runAt_less hr (by omega))
          omega
    · rw [if_neg hc]
      refine ⟨by omega, by omega, fun j hj => ?_, fun m hm hr => ?_⟩
      · obtain rfl : j = 0 := by omega
        refine ⟨s, by rw [show i + 1 - 1 + 0 = i by omega]; exact hs, hf', ?_⟩
        rw [show i + 1 - 1 = i by omega, idAt_of hs]
        simp
      · refine Nat.le_of_not_lt fun hlt2 => hc ?_
        obtain ⟨m, rfl⟩ : ∃ q, m = q + 2 := ⟨m - 2, by omega⟩
        have h9 := h.most (m + 1) (by omega) (by rw [show i - (m + 1) = i + 1 - (m + 2) by omega]; exact runAt_less hr (by omega))
        refine ⟨by omega, ?_⟩
        obtain ⟨a, a1, _, a3⟩ := hr (m + 1) (by omega)
        obtain ⟨b, b1, _, b3⟩ := hr m (by omega)
        rw [show i + 1 - (m + 2) + (m + 1) = i by omega, hs] at a1
        obtain rfl := Option.some.inj a1
        rw [show i + 1 - (m + 2) + m = i - 1 by omega] at b1
        rw [idAt_of b1, a3, b3]
        omega
theorem RunI.hit {S : List Sp} {n i long : Nat} {s : Sp} (h : RunI S n i long) (hs : S[i]? = some s) (he : longS S i long s = n) : n ≤ i + 1 ∧ runAt S (i + 1 - n) n ∧ ∀ k, k < i + 1 - n → ¬ runAt S k n := by
  obtain ⟨h1, _, h3, _⟩ := h.step hs
  rw [he] at h1 h3
  exact ⟨h1, h3, fun k hk => h.none k (by omega)⟩
theorem RunI.next {S : List Sp} {n i long : Nat} {s : Sp} (h : RunI S n i long) (hs : S[i]? = some s) (he : longS S i long s ≠ n) : RunI S n (i + 1) (longS S i long s) := by
  obtain ⟨h1, h2, h3, h4⟩ := h.step hs
  refine ⟨h1, by omega, h3, h4, fun k hk hr => ?_⟩
  by_cases hk2 : k + n ≤ i
  · exact h.none k hk2 hr
  · have h5 := h4 n (by omega) (by rw [show i + 1 - n = k by omega]; exact hr)
    omega
theorem RunI.end_ {S : List Sp} {n long : Nat} (h : RunI S n S.length long) (hn : 1 ≤ n) (k : Nat) : ¬ runAt S k n := fun hr => h.none k (runAt_in hr hn) hr

/-- the same ids are free, the same are pending, for the same -/
structure Tie (S : List Sp) (F : FM) : Prop where
  rise : Rising (idsS S)
  fre : ∀ x, x ∈ F.L ↔ ∃ s ∈ S, s.fr = true ∧ s.id = x
  pen : ∀ t x, (t, x) ∈ F.W ↔ ∃ s ∈ S, s.fr = false ∧ s.tx = t ∧ s.id = x
theorem rise_at {S : List Sp} (h : Rising (idsS S)) {i j : Nat} {a b : Sp} (ha : S[i]? = some a) (hb : S[j]? = some b) (hij : i < j) : a.id < b.id := by
  have ha' : (idsS S)[i]? = some a.id := by unfold idsS; rw [List.getElem?_map, ha]; rfl
  have hb' : (idsS S)[j]? = some b.id := by unfold idsS; rw [List.getElem?_map, hb]; rfl
  obtain ⟨p0, q0⟩ := List.getElem?_eq_some_iff.1 ha'
  obtain ⟨p1, q1⟩ := List.getElem?_eq_some_iff.1 hb'
  have := List.pairwise_iff_getElem.1 h i j p0 p1 hij
  rw [q0, q1] at this
  exact this
theorem rise_inj {S : List Sp} (h : Rising (idsS S)) {i j : Nat} {a b : Sp} (ha : S[i]? = some a) (hb : S[j]? = some b) (e : a.id = b.id) : i = j := by
  rcases Nat.lt_trichotomy i j with q | q | q
  · have := rise_at h ha hb q; omega
  · exact q
  · have := rise_at h hb ha q; omega
theorem run_all {S : List Sp} {F : FM} (h : Tie S F) {k n : Nat} (hr : runAt S k n) : allIn F.L (idAt S k) n := fun j hj => by
  obtain ⟨s, h1, h2, h3⟩ := hr j hj
  exact (h.fre _).2 ⟨s, List.mem_of_getElem? h1, h2, h3⟩
theorem all_run {S : List Sp} {F : FM} (h : Tie S F) {b : Int} {n : Nat} (hn : 1 ≤ n) (ha : allIn F.L b n) : ∃ k, runAt S k n ∧ idAt S k = b := by
  obtain ⟨s, hs, _, hid⟩ := (h.fre _).1 (ha 0 hn)
  obtain ⟨k, hk⟩ := List.getElem?_of_mem hs
  have hb : idAt S k = b := by rw [idAt_of hk, hid]; simp
  have key : ∀ j, j < n → ∃ s, S[k + j]? = some s ∧ s.fr = true ∧ s.id = b + (j : Int) := by
    intro j
    induction j with
    | zero =>
      intro _
      obtain ⟨s', hs', hf', hid'⟩ := (h.fre _).1 (ha 0 hn)
      obtain ⟨k', hk'⟩ := List.getElem?_of_mem hs'
      obtain rfl := rise_inj h.rise hk' hk (by rw [hid', hid])
      exact ⟨s', hk', hf', hid'⟩
    | succ j ih =>
      intro hj
      obtain ⟨p, p1, _, p3⟩ := ih (by omega)
      obtain ⟨s', hs', hf', hid'⟩ := (h.fre _).1 (ha (j + 1) hj)
      obtain ⟨k', hk'⟩ := List.getElem?_of_mem hs'
      have h1 : k + j < k' := by
        rcases Nat.lt_trichotomy (k + j) k' with q | q | q
        · exact q
        · rw [← q, p1] at hk'; obtain rfl := Option.some.inj hk'; omega
        · have := rise_at h.rise hk' p1 q; omega
      have h2 : k' = k + (j + 1) := by
        refine Nat.le_antisymm (Nat.le_of_not_lt fun q => ?_) (by omega)
        obtain ⟨m, hm⟩ : ∃ m, S[k + (j + 1)]? = some m := ⟨_, List.getElem?_eq_getElem (by have := (List.getElem?_eq_some_iff.1 hk').1; omega)⟩
        have h3 := rise_at h.rise p1 hm (by omega)
        have h4 := rise_at h.rise hm hk' q
        omega
      subst h2
      exact ⟨s', hk', hf', hid'⟩
  exact ⟨k, fun j hj => by rw [hb]; exact key j hj, hb⟩
theorem tie_some {S : List Sp} {F : FM} (h : Tie S F) (hF : Fine F) {k n : Nat} (hn : 1 ≤ n) (hr : runAt S k n) (hl : ∀ i, i < k → ¬ runAt S i n) : F.hit n = some (idAt S k) := by
  have ha := run_all h hr
  obtain ⟨b, hb, hle⟩ := hit_least hF.rise (by have := ha 0 hn; simpa using this) ha
  obtain ⟨_, h2⟩ := hit_run hb
  obtain ⟨i, hi, he⟩ := all_run h hn h2
  have hik : k ≤ i := Nat.le_of_not_lt fun q => hl i q hi
  rcases Nat.lt_or_eq_of_le hik with q | rfl
  · obtain ⟨a, a1, _⟩ := hr 0 hn
    obtain ⟨c, c1, _⟩ := hi 0 hn
    rw [Nat.add_zero] at a1 c1
    have := rise_at h.rise a1 c1 q
    rw [← idAt_of a1, ← idAt_of c1] at this
    omega
  · rw [hb, he]
theorem tie_none {S : List Sp} {F : FM} (h : Tie S F) {n : Nat} (hn : 1 ≤ n) (hl : ∀ i, ¬ runAt S i n) : F.hit n = none := by
  cases hb : F.hit n with
  | none => rfl
  | some b =>
    obtain ⟨_, h2⟩ := hit_run hb
    obtain ⟨i, hi, _⟩ := all_run h hn h2
    exact absurd hi (hl i)
/-- a run is taken out -/
def cutS (S : List Sp) (k n : Nat) : List Sp := S.take k ++ S.drop (k + n)
theorem cut_mem {S : List Sp} (h : Rising (idsS S)) {k n : Nat} (hr : runAt S k n) {s : Sp} : s ∈ cutS S k n ↔ s ∈ S ∧ ¬ (idAt S k ≤ s.id ∧ s.id < idAt S k + (n : Int)) := by
  unfold cutS
  constructor
  · intro hm
    rcases List.mem_append.1 hm with q | q
    · obtain ⟨i, hi⟩ := List.getElem?_of_mem q
      have hlt := (List.getElem?_eq_some_iff.1 hi).1
      rw [List.length_take] at hlt
      rw [List.getElem?_take_of_lt (by omega)] at hi
      refine ⟨List.mem_of_getElem? hi, fun e => ?_⟩
      cases n with
      | zero => omega
      | succ n =>
        obtain ⟨a, a1, _⟩ := hr 0 (by omega)
        rw [Nat.add_zero] at a1
        have := rise_at h hi a1 (by omega)
        rw [idAt_of a1] at e
        omega
    · obtain ⟨i, hi⟩ := List.getElem?_of_mem q
      rw [List.getElem?_drop] at hi
      refine ⟨List.mem_of_getElem? hi, fun e => ?_⟩
      cases n with
      | zero => omega
      | succ n =>
        obtain ⟨a, a1, _, a3⟩ := hr n (by omega)
        have := rise_at h a1 hi (by omega)
        omega
  · rintro ⟨hm, hn⟩
    obtain ⟨i, hi⟩ := List.getElem?_of_mem hm
    by_cases q : i < k
    · exact List.mem_append_left _ (List.mem_of_getElem? (i := i) (by rw [List.getElem?_take_of_lt q]; exact hi))
    · by_cases q2 : i < k + n
      · obtain ⟨a, a1, _, a3⟩ := hr (i - k) (by omega)
        rw [show k + (i - k) = i by omega, hi] at a1
        obtain rfl := Option.some.inj a1
        exact absurd ⟨by omega, by omega⟩ hn
      · exact List.mem_append_right _ (List.mem_of_getElem? (i := i - (k + n)) (by rw [List.getElem?_drop, show k + n + (i - (k + n)) = i by omega]; exact hi))
theorem cut_sub (S : List Sp) (k n : Nat) : List.Sublist (cutS S k n) S := by
  unfold cutS
  have h : List.Sublist (S.take k ++ S.drop (k + n)) (S.take k ++ S.drop k) := List.Sublist.append (List.Sublist.refl _) (by
    rw [← List.drop_drop]
    exact List.drop_sublist _ _)
  rwa [List.take_append_drop] at h
theorem mem_at {S : List Sp} (h : Rising (idsS S)) {k n : Nat} (hr : runAt S k n) {s : Sp} (hs : s ∈ S) (h1 : idAt S k ≤ s.id) (h2 : s.id < idAt S k + (n : Int)) : s.fr = true := by
  obtain ⟨i, hi⟩ := List.getElem?_of_mem hs
  obtain ⟨j, hj⟩ : ∃ j : Nat, s.id = idAt S k + (j : Int) := ⟨(s.id - idAt S k).toNat, by omega⟩
  obtain ⟨a, a1, a2, a3⟩ := hr j (by omega)
  obtain rfl := rise_inj h hi a1 (by omega)
  rw [hi] at a1
  obtain rfl := Option.some.inj a1
  exact a2
theorem Tie.cut {S : List Sp} {F : FM} (h : Tie S F) {k n : Nat} (hr : runAt S k n) : Tie (cutS S k n) { F with L := dropN F.L (idAt S k) n } := by
  refine ⟨List.Pairwise.sublist ((cut_sub S k n).map _) h.rise, fun x => ?_, fun t x => ?_⟩
  · show x ∈ dropN F.L _ n ↔ _
    rw [dropN_mem, h.fre]
    constructor
    · rintro ⟨⟨s, h1, h2, rfl⟩, h4⟩
      exact ⟨s, (cut_mem h.rise hr).2 ⟨h1, h4⟩, h2, rfl⟩
    · rintro ⟨s, h1, h2, rfl⟩
      obtain ⟨h1, h4⟩ := (cut_mem h.rise hr).1 h1
      exact ⟨⟨s, h1, h2, rfl⟩, h4⟩
  · show (t, x) ∈ F.W ↔ _
    rw [h.pen]
    constructor
    · rintro ⟨s, h1, h2, h3, rfl⟩
      refine ⟨s, (cut_mem h.rise hr).2 ⟨h1, fun e => ?_⟩, h2, h3, rfl⟩
      rw [mem_at h.rise hr h1 e.1 e.2] at h2
      cases h2
    · rintro ⟨s, h1, h2, h3, rfl⟩
      exact ⟨s, ((cut_mem h.rise hr).1 h1).1, h2, h3, rfl⟩
theorem tie_all {S : List Sp} {F : FM} (h : Tie S F) {x : Int} : x ∈ F.all ↔ x ∈ idsS S := by
  rw [all_mem, h.fre]
  unfold idsS
  constructor
  · rintro (⟨s, h1, _, rfl⟩ | ⟨p, h1, rfl⟩)
    · exact List.mem_map_of_mem h1
    · obtain ⟨s, h2, _, _, h5⟩ := (h.pen p.1 p.2).1 h1
      rw [← h5]
      exact List.mem_map_of_mem h2
  · intro hm
    obtain ⟨s, h1, rfl⟩ := List.mem_map.1 hm
    cases hf : s.fr with
    | true => exact .inl ⟨s, h1, hf, rfl⟩
    | false => exact .inr ⟨(s.tx, s.id), (h.pen _ _).2 ⟨s, h1, hf, rfl, rfl⟩, rfl⟩
theorem Tie.ids {S : List Sp} {F : FM} (h : Tie S F) (hF : Fine F) : idsS S = F.all := rising_ext h.rise hF.all_rising fun _ => (tie_all h).symm
theorem Tie.len {S : List Sp} {F : FM} (h : Tie S F) (hF : Fine F) : S.length = F.L.length + F.W.length := by
  rw [← hF.all_len, ← h.ids hF]
  simp [idsS]
def freeS (S : List Sp) : List Int := idsS (S.filter Sp.fr)
def pendS (tx : Int) (S : List Sp) : List Int := idsS (S.filter fun s => !s.fr && s.tx == tx)
theorem filt_rising {S : List Sp} (h : Rising (idsS S)) (q : Sp → Bool) : Rising (idsS (S.filter q)) := List.Pairwise.sublist (List.Sublist.map _ List.filter_sublist) h
theorem Tie.free_ {S : List Sp} {F : FM} (h : Tie S F) (hF : Fine F) : freeS S = F.L := by
  refine rising_ext (filt_rising h.rise _) hF.rise fun x => ?_
  rw [h.fre]
  unfold freeS idsS
  simp only [List.mem_map, List.mem_filter]
  exact ⟨fun ⟨s, ⟨h1, h2⟩, h3⟩ => ⟨s, h1, h2, h3⟩, fun ⟨s, h1, h2, h3⟩ => ⟨s, ⟨h1, h2⟩, h3⟩⟩
theorem Tie.pend_ {S : List Sp} {F : FM} (h : Tie S F) (tx : Int) : pendS tx S = F.pend tx := by
  refine rising_ext (filt_rising h.rise _) (pend_rising F tx) fun x => ?_
  rw [pend_mem]
  unfold pendS idsS
  simp only [List.mem_map, List.mem_filter, Bool.and_eq_true, Bool.not_eq_true', beq_iff_eq]
  constructor
  · rintro ⟨s, ⟨h1, h2, h3⟩, rfl⟩
    exact ⟨(tx, s.id), (h.pen _ _).2 ⟨s, h1, h2, h3, rfl⟩, rfl, rfl⟩
  · rintro ⟨⟨t, y⟩, h1, rfl, rfl⟩
    obtain ⟨s, h2, h3, h4, h5⟩ := (h.pen _ _).1 h1
    exact ⟨s, ⟨h2, h3, h4⟩, h5⟩
/-- one more is pending -/
def addS (S : List Sp) (tx id : Int) : List Sp := S.take (lowN (idsS S) id) ++ [⟨id, false, tx⟩] ++ S.drop (lowN (idsS S) id)
theorem add_ids {S : List Sp} {tx id : Int} (h : id ∉ idsS S) : idsS (addS S tx id) = putS (idsS S) id := by
  unfold putS
  rw [if_neg (fun e => h (List.mem_of_getElem? e))]
  unfold addS idsS
  simp [List.map_take, List.map_drop]
theorem add_mem {S : List Sp} {tx id : Int} {s : Sp} : s ∈ addS S tx id ↔ s ∈ S ∨ s = ⟨id, false, tx⟩ := by
  have e : s ∈ S ↔ s ∈ S.take (lowN (idsS S) id) ∨ s ∈ S.drop (lowN (idsS S) id) := by rw [← List.mem_append, List.take_append_drop]
  unfold addS
  simp only [List.mem_append, List.mem_singleton]
  rw [e]
  constructor
  · rintro ((q | q) | q)
    · exact .inl (.inl q)
    · exact .inr q
    · exact .inl (.inr q)
  · rintro ((q | q) | q)
    · exact .inl (.inl q)
    · exact .inr q
    · exact .inl (.inr q)
theorem add_len (S : List Sp) (tx id : Int) : (addS S tx id).length = S.length + 1 := by
  have := low_le (idsS S) id
  have e : (idsS S).length = S.length := by simp [idsS]
  unfold addS
  simp
  omega
theorem Tie.add {S : List Sp} {F : FM} (h : Tie S F) {tx id : Int} (hn : id ∉ idsS S) : Tie (addS S tx id) { F with W := F.W ++ [(tx, id)] } := by
  refine ⟨by rw [add_ids hn]; exact put_rising h.rise, fun x => ?_, fun t x => ?_⟩
  · show x ∈ F.L ↔ _
    rw [h.fre]
    constructor
    · rintro ⟨s, h1, h2, h3⟩
      exact ⟨s, add_mem.2 (.inl h1), h2, h3⟩
    · rintro ⟨s, h1, h2, h3⟩
      rcases add_mem.1 h1 with q | rfl
      · exact ⟨s, q, h2, h3⟩
      · cases h2
  · show (t, x) ∈ F.W ++ [(tx, id)] ↔ _
    rw [List.mem_append, h.pen, List.mem_singleton]
    constructor
    · rintro (⟨s, h1, h2, h3, h4⟩ | q)
      · exact ⟨s, add_mem.2 (.inl h1), h2, h3, h4⟩
      · cases q
        exact ⟨_, add_mem.2 (.inr rfl), rfl, rfl, rfl⟩
    · rintro ⟨s, h1, h2, h3, h4⟩
      rcases add_mem.1 h1 with q | rfl
      · exact .inl ⟨s, q, h2, h3, h4⟩
      · exact .inr (by subst h3 h4; rfl)
/-- those that are pending for a tx below are free -/
def relOne (t : Int) (s : Sp) : Sp := if !s.fr && decide (s.tx < t) then ⟨s.id, true, 0⟩ else s
def relS (t : Int) (S : List Sp) : List Sp := S.map (relOne t)
def relC (t : Int) (S : List Sp) : Nat := (S.filter fun s => !s.fr && decide (s.tx < t)).length
theorem relOne_id (t : Int) (s : Sp) : (relOne t s).id = s.id := by unfold relOne; split <;> rfl
theorem rel_ids (t : Int) (S : List Sp) : idsS (relS t S) = idsS S := by
  unfold idsS relS
  rw [List.map_map]
  exact List.map_congr_left fun s _ => relOne_id t s
theorem Tie.rel {S : List Sp} {F : FM} (h : Tie S F) (t : Int) : Tie (relS t S) { F with L := F.relL t, W := relW t F.W } := by
  refine ⟨by rw [rel_ids]; exact h.rise, fun x => ?_, fun u x => ?_⟩
  · show x ∈ F.relL t ↔ _
    rw [relL_mem, h.fre]
    unfold relS
    constructor
    · rintro (⟨s, h1, h2, rfl⟩ | ⟨p, h1, h2, rfl⟩)
      · exact ⟨relOne t s, List.mem_map_of_mem h1, by unfold relOne; rw [h2]; simp [h2], relOne_id t s⟩
      · obtain ⟨s, h3, h4, h5, h6⟩ := (h.pen p.1 p.2).1 h1
        exact ⟨relOne t s, List.mem_map_of_mem h3, by unfold relOne; rw [h4, h5]; simp [h2], by rw [relOne_id]; exact h6⟩
    · rintro ⟨s', h1, h2, rfl⟩
      obtain ⟨s, h3, rfl⟩ := List.mem_map.1 h1
      rw [relOne_id]
      cases hf : s.fr with
      | true => exact .inl ⟨s, h3, hf, rfl⟩
      | false =>
        by_cases ht : s.tx < t
        · exact .inr ⟨(s.tx, s.id), (h.pen _ _).2 ⟨s, h3, hf, rfl, rfl⟩, ht, rfl⟩
        · unfold relOne at h2
          rw [hf] at h2
          simp [ht, hf] at h2
  · show (u, x) ∈ relW t F.W ↔ _
    rw [relW_mem, h.pen]
    unfold relS
    constructor
    · rintro ⟨⟨s, h1, h2, h3, rfl⟩, h5⟩
      have e : relOne t s = s := by unfold relOne; rw [h3]; simp [show ¬ u < t from h5]
      exact ⟨s, by rw [← e]; exact List.mem_map_of_mem h1, h2, h3, rfl⟩
    · rintro ⟨s', h1, h2, h3, rfl⟩
      obtain ⟨s, h4, rfl⟩ := List.mem_map.1 h1
      unfold relOne at h2 h3 ⊢
      by_cases hc : (!s.fr && decide (s.tx < t)) = true
      · rw [if_pos hc] at h2
        cases h2
      · rw [if_neg hc] at h2 h3 ⊢
        refine ⟨⟨s, h4, h2, h3, rfl⟩, fun e => hc ?_⟩
        rw [h2, h3]
        simpa using e
theorem rel_count (t : Int) : ∀ S : List Sp, ((relS t S).filter Sp.fr).length = (S.filter Sp.fr).length + relC t S
  | [] => rfl
  | s :: S => by
    have ih := rel_count t S
    unfold relS relC at ih ⊢
    rw [List.map_cons]
    cases hf : s.fr with
    | true =>
      have e : relOne t s = s := by unfold relOne; rw [hf]; rfl
      rw [e, List.filter_cons_of_pos hf, List.filter_cons_of_pos hf, List.filter_cons_of_neg (by simp [hf]), List.length_cons, List.length_cons, ih]
      omega
    | false =>
      by_cases ht : s.tx < t
      · have e : (relOne t s).fr = true := by unfold relOne; rw [hf]; simp [ht]
        rw [List.filter_cons_of_pos e, List.filter_cons_of_neg (by simp [hf]), List.filter_cons_of_pos (by simp [hf, ht]), List.length_cons, List.length_cons, ih]
        omega
      · have e : relOne t s = s := by unfold relOne; rw [hf]; simp [ht]
        rw [e, List.filter_cons_of_neg (by simp [hf]), List.filter_cons_of_neg (by simp [hf]), List.filter_cons_of_neg (by simp [ht]), ih]
theorem Tie.relC {S : List Sp} {F : FM} (h : Tie S F) (hF : Fine F) (t : Int) : relC t S = relN t F.W := by
  have h1 := (h.rel t).free_ (hF.rel t)
  have h2 := h.free_ hF
  have h3 := congrArg List.length h1
  have h4 := congrArg List.length h2
  unfold freeS idsS at h3 h4
  rw [List.length_map] at h3 h4
  have h5 := hF.relL_len t
  have h6 := rel_count t S
  simp only at h3
  omega

end Go.Proofs.Ytoiaamijjcjjiaa.P7
