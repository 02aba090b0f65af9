/-
  Keys in order; where a key stands; with one item more, with one less.
-/
import Derived.Test.YthihjkdankbnjaaGreatT2
import Derived.Lib.Bytealg
namespace Go.Proofs.YthihjkdankbnjaaGreat.P10
open Go Go.RowKit Go.Lib Go.Proofs.YthihjkdankbnjaaGreat.PK

theorem u8_lt {a b : UInt8} : a < b ↔ a.toNat < b.toNat := UInt8.lt_iff_toNat_lt
theorem u8_eq {a b : UInt8} : a = b ↔ a.toNat = b.toNat := UInt8.toNat_inj.symm
theorem bl_cons (a b : UInt8) (x y : List UInt8) : Op.bytesLess (a :: x) (b :: y) = (decide (a < b) || (a == b && Op.bytesLess x y)) := by rw [Op.bytesLess]
theorem bl_irr : ∀ x : List UInt8, Op.bytesLess x x = false
  | [] => by simp [Op.bytesLess]
  | a :: x => by
    rw [bl_cons, bl_irr x]
    simp
theorem bl_trans : ∀ {x y z : List UInt8}, Op.bytesLess x y = true → Op.bytesLess y z = true → Op.bytesLess x z = true
  | x, y, [], _, h2 => by simp [Op.bytesLess] at h2
  | [], y, c :: z, _, _ => by simp [Op.bytesLess]
  | a :: x, [], c :: z, h1, _ => by simp [Op.bytesLess] at h1
  | a :: x, b :: y, c :: z, h1, h2 => by
    rw [bl_cons] at h1 h2 ⊢
    simp only [Bool.or_eq_true, decide_eq_true_eq, Bool.and_eq_true, beq_iff_eq] at h1 h2 ⊢
    rcases h1 with h1 | ⟨rfl, h1⟩
    · rcases h2 with h2 | ⟨rfl, h2⟩
      · left
        rw [u8_lt] at *
        omega
      · exact .inl h1
    · rcases h2 with h2 | ⟨rfl, h2⟩
      · exact .inl h2
      · exact .inr ⟨rfl, bl_trans h1 h2⟩
theorem bl_tri : ∀ {x y : List UInt8}, Op.bytesLess x y = false → Op.bytesLess y x = false → x = y
  | [], [], _, _ => rfl
  | [], b :: y, h1, _ => by simp [Op.bytesLess] at h1
  | a :: x, [], _, h2 => by simp [Op.bytesLess] at h2
  | a :: x, b :: y, h1, h2 => by
    rw [bl_cons] at h1 h2
    simp only [Bool.or_eq_false_iff, decide_eq_false_iff_not, Bool.and_eq_false_iff, beq_eq_false_iff_ne] at h1 h2
    have hab : a = b := by
      rw [u8_eq]
      have := h1.1
      have := h2.1
      rw [u8_lt] at *
      omega
    subst hab
    have q1 : Op.bytesLess x y = false := by
      rcases h1.2 with h | h
      · exact absurd rfl h
      · exact h
    have q2 : Op.bytesLess y x = false := by
      rcases h2.2 with h | h
      · exact absurd rfl h
      · exact h
    rw [bl_tri q1 q2]
theorem cmp_bl : ∀ (x y : List UInt8), Lib.compareBytes x y = if Op.bytesLess x y = true then -1 else if Op.bytesLess y x = true then 1 else 0
  | [], [] => by simp [Lib.compareBytes, Op.bytesLess]
  | [], b :: y => by simp [Lib.compareBytes, Op.bytesLess]
  | a :: x, [] => by simp [Lib.compareBytes, Op.bytesLess]
  | a :: x, b :: y => by
    rw [Lib.compareBytes, bl_cons, bl_cons, cmp_bl x y]
    by_cases h1 : a < b
    · rw [if_pos h1]; simp [h1]
    · by_cases h2 : b < a
      · have h3 : ¬ a = b := by rw [u8_eq]; rw [u8_lt] at h2; omega
        rw [if_neg h1, if_pos h2]; simp [h1, h2, h3]
      · have h3 : a = b := by rw [u8_eq]; rw [u8_lt] at h1 h2; omega
        subst h3
        rw [if_neg h1, if_neg h2]; simp
theorem kb_eq (a b : ByteArray) : kb a b = Op.bytesLess a.data.toList b.data.toList := by unfold kb; rw [ByteArray.toList_eq, ByteArray.toList_eq]
theorem kb_irr (a : ByteArray) : kb a a = false := bl_irr _
theorem kb_trans {a b c : ByteArray} (h : kb a b = true) (k : kb b c = true) : kb a c = true := bl_trans h k
theorem ba_ext {a b : ByteArray} (h : a.data.toList = b.data.toList) : a = b := by
  cases a; cases b
  simp only [ByteArray.mk.injEq]
  exact Array.toList_inj.1 h
theorem kb_tri {a b : ByteArray} (h : kb a b = false) (k : kb b a = false) : a = b := by
  rw [kb_eq] at h k
  exact ba_ext (bl_tri h k)
theorem kb_ne {a b : ByteArray} (h : kb a b = true) : a ≠ b := fun e => by rw [e, kb_irr] at h; cases h
theorem kb_asym {a b : ByteArray} (h : kb a b = true) : kb b a = false := by
  cases k : kb b a
  · rfl
  · have := kb_trans h k
    rw [kb_irr] at this
    cases this
/-- the comparison of two keys -/
def cmpK (a b : ByteArray) : Int := if kb a b = true then -1 else if kb b a = true then 1 else 0
theorem cmpK_eq (a b : ByteArray) : Lib.compareBytes a.data.toList b.data.toList = cmpK a b := by
  unfold cmpK
  rw [cmp_bl, kb_eq, kb_eq]
theorem cmpK_neg (a b : ByteArray) : decide (cmpK a b < 0) = kb a b := by
  unfold cmpK
  cases h : kb a b
  · cases k : kb b a <;> simp
  · simp
theorem cmpK_zero (a b : ByteArray) : (cmpK a b == 0) = true ↔ a = b := by
  unfold cmpK
  cases h : kb a b
  · cases k : kb b a
    · have := kb_tri h k
      simp [this]
    · have : a ≠ b := fun e => by rw [e, kb_irr] at k; cases k
      simp [this]
  · have := kb_ne h
    simp [this]

/-- keys in order: each stands behind those ahead of it -/
theorem rise_at {l : List It} (h : RightO l) {i j : Nat} {x y : It} (hi : l[i]? = some x) (hj : l[j]? = some y) (hij : i < j) : kb x.key y.key = true := by
  obtain ⟨d, rfl⟩ : ∃ d, j = i + 1 + d := ⟨j - (i + 1), by omega⟩
  induction d generalizing y with
  | zero => exact h.2 i x y (List.getElem?_eq_some_iff.1 hj).1 hi hj
  | succ d ih =>
    have hlt := (List.getElem?_eq_some_iff.1 hj).1
    obtain ⟨z, hz⟩ : ∃ z, l[i + 1 + d]? = some z := ⟨_, List.getElem?_eq_getElem (by omega)⟩
    exact kb_trans (ih hz (by omega)) (h.2 (i + 1 + d) z y (by omega) hz hj)
theorem rightI_of {l : List It} (h1 : ∀ x ∈ l, x.ok = true) (h2 : ∀ (i j : Nat) (x y : It), i < j → l[i]? = some x → l[j]? = some y → kb x.key y.key = true) : RightO l :=
  ⟨fun i x _ hi => h1 x (List.mem_of_getElem? hi), fun i x y _ hi hj => h2 i (i + 1) x y (by omega) hi hj⟩
theorem rightI_pair {l : List It} : RightO l ↔ (∀ x ∈ l, x.ok = true) ∧ l.Pairwise (fun x y => kb x.key y.key = true) := by
  constructor
  · intro h
    refine ⟨fun x hx => ?_, List.pairwise_iff_getElem.2 fun i j hi hj hij => ?_⟩
    · obtain ⟨i, hi, rfl⟩ := List.mem_iff_getElem.1 hx
      exact h.1 i _ hi (List.getElem?_eq_getElem hi)
    · exact rise_at h (List.getElem?_eq_getElem hi) (List.getElem?_eq_getElem hj) hij
  · rintro ⟨h1, h2⟩
    refine rightI_of h1 fun i j x y hij hi hj => ?_
    obtain ⟨hi', rfl⟩ := List.getElem?_eq_some_iff.1 hi
    obtain ⟨hj', rfl⟩ := List.getElem?_eq_some_iff.1 hj
    exact List.pairwise_iff_getElem.1 h2 i j hi' hj' hij
theorem RightO.sub {l k : List It} (h : RightO l) (p : k.Sublist l) : RightO k := by
  rw [rightI_pair] at h ⊢
  exact ⟨fun x hx => h.1 x (p.subset hx), h.2.sublist p⟩
theorem RightO.nil : RightO [] := rightI_pair.2 ⟨fun _ h => (List.not_mem_nil h).elim, List.Pairwise.nil⟩

def keysI (l : List It) : List ByteArray := l.map It.key
/-- does a key stand there? -/
def hasK (l : List It) (k : ByteArray) : Bool := l.any (fun x => cmpK x.key k == 0)
theorem hasK_iff {l : List It} {k : ByteArray} : hasK l k = true ↔ k ∈ keysI l := by
  unfold hasK keysI
  rw [List.any_eq_true, List.mem_map]
  exact ⟨fun ⟨x, h1, h2⟩ => ⟨x, h1, (cmpK_zero _ _).1 h2⟩, fun ⟨x, h1, h2⟩ => ⟨x, h1, (cmpK_zero _ _).2 h2⟩⟩
theorem hasK_not {l : List It} {k : ByteArray} : hasK l k = false ↔ ¬ k ∈ keysI l := by
  rw [← hasK_iff]
  cases hasK l k <;> simp
/-- how many keys stand ahead of a key -/
def lowK (l : List It) (k : ByteArray) : Nat := (l.takeWhile (fun x => kb x.key k)).length
theorem lowK_le (l : List It) (k : ByteArray) : lowK l k ≤ l.length := by
  unfold lowK
  have := (List.takeWhile_sublist (l := l) (fun x => kb x.key k)).length_le
  exact this
theorem lowK_cons (x : It) (l : List It) (k : ByteArray) : lowK (x :: l) k = if kb x.key k = true then lowK l k + 1 else 0 := by
  unfold lowK
  rw [List.takeWhile_cons]
  split <;> simp
theorem lowK_eq : ∀ {l : List It} {k : ByteArray} {n : Nat}, (∀ (j : Nat) (y : It), j < n → l[j]? = some y → kb y.key k = true) → n ≤ l.length → (∀ y, l[n]? = some y → kb y.key k = false) → lowK l k = n
  | [], k, n, _, h, _ => by
    have : n = 0 := by simpa using h
    subst this
    rfl
  | x :: l, k, 0, _, _, h => by
    rw [lowK_cons, h x rfl]
    simp
  | x :: l, k, n + 1, h1, h2, h3 => by
    rw [lowK_cons, if_pos (h1 0 x (by omega) rfl), lowK_eq (n := n) (fun j y hj hy => h1 (j + 1) y (by omega) (by simpa using hy)) (by simpa using h2) (fun y hy => h3 y (by simpa using hy))]
theorem lowK_ahead : ∀ {l : List It} {k : ByteArray} {j : Nat} {y : It}, j < lowK l k → l[j]? = some y → kb y.key k = true
  | [], k, j, y, h, hy => by simp at hy
  | x :: l, k, j, y, h, hy => by
    rw [lowK_cons] at h
    by_cases hk : kb x.key k = true
    · rw [if_pos hk] at h
      match j, hy with
      | 0, hy =>
        obtain rfl : x = y := by simpa using hy
        exact hk
      | j + 1, hy => exact lowK_ahead (l := l) (k := k) (j := j) (by omega) (by simpa using hy)
    · rw [if_neg hk] at h
      omega
theorem lowK_at : ∀ {l : List It} {k : ByteArray} {y : It}, l[lowK l k]? = some y → kb y.key k = false
  | [], k, y, hy => by simp at hy
  | x :: l, k, y, hy => by
    rw [lowK_cons] at hy
    by_cases hk : kb x.key k = true
    · rw [if_pos hk] at hy
      exact lowK_at (by simpa using hy)
    · rw [if_neg hk] at hy
      obtain rfl : x = y := by simpa using hy
      exact Bool.eq_false_iff.2 hk
theorem keys_at {l : List It} {i : Nat} {x : It} (h : l[i]? = some x) : (keysI l)[i]? = some x.key := by unfold keysI; rw [List.getElem?_map, h]; rfl
theorem keys_len (l : List It) : (keysI l).length = l.length := by simp [keysI]
/-- a key that is there stands there -/
theorem lowK_hit {l : List It} (h : RightO l) {k : ByteArray} (hk : k ∈ keysI l) : ∃ x, l[lowK l k]? = some x ∧ x.key = k := by
  unfold keysI at hk
  obtain ⟨x, hx, rfl⟩ := List.mem_map.1 hk
  obtain ⟨i, hi, rfl⟩ := List.mem_iff_getElem.1 hx
  have hi' := List.getElem?_eq_getElem hi
  have e : lowK l l[i].key = i := lowK_eq (fun j y hj hy => rise_at h hy hi' hj) (by omega) (fun y hy => by
    rw [hi'] at hy
    obtain rfl := Option.some.inj hy
    exact kb_irr _)
  exact ⟨l[i], by rw [e]; exact hi', rfl⟩
theorem mem_of_low {l : List It} {k : ByteArray} {x : It} (h : l[lowK l k]? = some x) (hx : x.key = k) : k ∈ keysI l := by
  rw [← hx]
  exact List.mem_map.2 ⟨x, List.mem_of_getElem? h, rfl⟩
/-- what stands behind the place: all keys are above, but the first one, which may be it -/
theorem lowK_behind {l : List It} (h : RightO l) {k : ByteArray} {j : Nat} {y : It} (hj : lowK l k ≤ j) (hy : l[j]? = some y) : kb y.key k = false := by
  rcases Nat.lt_or_eq_of_le hj with q | q
  · obtain ⟨z, hz⟩ : ∃ z, l[lowK l k]? = some z := ⟨_, List.getElem?_eq_getElem (by have := (List.getElem?_eq_some_iff.1 hy).1; omega)⟩
    have h1 := rise_at h hz hy q
    have h2 := lowK_at hz
    cases h3 : kb y.key k
    · rfl
    · rw [kb_trans h1 h3] at h2
      cases h2
  · subst q
    exact lowK_at hy

/-- with an item more -/
def putI (l : List It) (x : It) : List It := l.take (lowK l x.key) ++ [x] ++ l.drop (if hasK l x.key = true then lowK l x.key + 1 else lowK l x.key)
/-- with one less -/
def dropI (l : List It) (k : ByteArray) : List It := if hasK l k = true then l.take (lowK l k) ++ l.drop (lowK l k + 1) else l
theorem dropI_sub (l : List It) (k : ByteArray) : (dropI l k).Sublist l := by
  unfold dropI
  by_cases h : hasK l k = true
  · rw [if_pos h]
    conv => rhs; rw [← List.take_append_drop (lowK l k) l]
    exact List.Sublist.append (List.Sublist.refl _) (List.drop_sublist_drop_left l (by omega))
  · rw [if_neg h]
    exact List.Sublist.refl _
theorem dropI_right {l : List It} (h : RightO l) (k : ByteArray) : RightO (dropI l k) := h.sub (dropI_sub l k)
theorem mem_take_low {l : List It} {k : ByteArray} {x : It} (h : x ∈ l.take (lowK l k)) : kb x.key k = true := by
  obtain ⟨i, hi, rfl⟩ := List.mem_iff_getElem.1 h
  rw [List.length_take] at hi
  exact lowK_ahead (l := l) (j := i) (by omega) (by rw [List.getElem_take]; exact List.getElem?_eq_getElem (by omega))
theorem mem_drop_low {l : List It} (hr : RightO l) {k : ByteArray} {x : It} (h : x ∈ l.drop (if hasK l k = true then lowK l k + 1 else lowK l k)) : kb k x.key = true := by
  obtain ⟨i, hi, rfl⟩ := List.mem_iff_getElem.1 h
  rw [List.getElem_drop]
  rw [List.length_drop] at hi
  generalize hq : (if hasK l k = true then lowK l k + 1 else lowK l k) = q at *
  have hx : l[q + i]? = some l[q + i] := List.getElem?_eq_getElem (by omega)
  by_cases hk : hasK l k = true
  · rw [if_pos hk] at hq
    obtain ⟨z, hz, hzk⟩ := lowK_hit hr (hasK_iff.1 hk)
    have := rise_at hr hz hx (by omega)
    rwa [hzk] at this
  · rw [if_neg hk] at hq
    have h1 := lowK_behind hr (k := k) (by omega) hx
    cases h2 : kb k l[q + i].key
    · exact absurd (hasK_iff.2 (List.mem_map.2 ⟨_, List.getElem_mem _, kb_tri h1 h2⟩)) hk
    · rfl
theorem putI_right {l : List It} (h : RightO l) {x : It} (hx : x.ok = true) : RightO (putI l x) := by
  have h' := rightI_pair.1 h
  unfold putI
  rw [rightI_pair]
  refine ⟨fun y hy => ?_, ?_⟩
  · rcases List.mem_append.1 hy with hy | hy
    · rcases List.mem_append.1 hy with hy | hy
      · exact h'.1 y (List.mem_of_mem_take hy)
      · obtain rfl := List.mem_singleton.1 hy
        exact hx
    · exact h'.1 y (List.mem_of_mem_drop hy)
  · rw [List.pairwise_append, List.pairwise_append]
    refine ⟨⟨h'.2.sublist (List.take_sublist _ _), List.pairwise_singleton _ _, fun a ha b hb => ?_⟩, h'.2.sublist (List.drop_sublist _ _), fun a ha b hb => ?_⟩
    · obtain rfl := List.mem_singleton.1 hb
      exact mem_take_low ha
    · have hb' := mem_drop_low h hb
      rcases List.mem_append.1 ha with ha | ha
      · exact kb_trans (mem_take_low ha) hb'
      · obtain rfl := List.mem_singleton.1 ha
        exact hb'
theorem mem_split {l : List It} (hr : RightO l) (k : ByteArray) (y : It) : y ∈ l ↔ y ∈ l.take (lowK l k) ∨ (y ∈ l ∧ y.key = k) ∨ y ∈ l.drop (if hasK l k = true then lowK l k + 1 else lowK l k) := by
  constructor
  · intro hy
    have e : y ∈ l.take (lowK l k) ++ l.drop (lowK l k) := by rw [List.take_append_drop]; exact hy
    rcases List.mem_append.1 e with h | h
    · exact .inl h
    · by_cases hk : hasK l k = true
      · obtain ⟨z, hz, hzk⟩ := lowK_hit hr (hasK_iff.1 hk)
        have hlt := (List.getElem?_eq_some_iff.1 hz).1
        rw [List.drop_eq_getElem_cons hlt] at h
        rcases List.mem_cons.1 h with h | h
        · refine .inr (.inl ⟨hy, ?_⟩)
          rw [List.getElem?_eq_getElem hlt] at hz
          rw [h, Option.some.inj hz, hzk]
        · right; right
          rw [if_pos hk]
          exact h
      · right; right
        rw [if_neg hk]
        exact h
  · rintro (h | ⟨h, _⟩ | h)
    · exact List.mem_of_mem_take h
    · exact h
    · exact List.mem_of_mem_drop h
theorem mem_putI {l : List It} (hr : RightO l) (x y : It) : y ∈ putI l x ↔ y = x ∨ (y ∈ l ∧ y.key ≠ x.key) := by
  unfold putI
  rw [List.mem_append, List.mem_append, List.mem_singleton]
  constructor
  · rintro ((h | h) | h)
    · exact .inr ⟨List.mem_of_mem_take h, kb_ne (mem_take_low h)⟩
    · exact .inl h
    · exact .inr ⟨List.mem_of_mem_drop h, fun e => kb_ne (mem_drop_low hr h) e.symm⟩
  · rintro (h | ⟨h, hk⟩)
    · exact .inl (.inr h)
    · rcases (mem_split hr x.key y).1 h with h | ⟨_, h⟩ | h
      · exact .inl (.inl h)
      · exact absurd h hk
      · exact .inr h
theorem mem_dropI {l : List It} (hr : RightO l) (k : ByteArray) (y : It) : y ∈ dropI l k ↔ y ∈ l ∧ y.key ≠ k := by
  unfold dropI
  by_cases hk : hasK l k = true
  · rw [if_pos hk, List.mem_append]
    have e : (if hasK l k = true then lowK l k + 1 else lowK l k) = lowK l k + 1 := if_pos hk
    constructor
    · rintro (h | h)
      · exact ⟨List.mem_of_mem_take h, kb_ne (mem_take_low h)⟩
      · exact ⟨List.mem_of_mem_drop h, fun q => kb_ne (mem_drop_low hr (by rw [e]; exact h)) q.symm⟩
    · rintro ⟨h, hn⟩
      rcases (mem_split hr k y).1 h with h | ⟨_, h⟩ | h
      · exact .inl h
      · exact absurd h hn
      · rw [e] at h
        exact .inr h
  · rw [if_neg hk]
    exact ⟨fun h => ⟨h, fun e => hk (hasK_iff.2 (List.mem_map.2 ⟨y, h, e⟩))⟩, fun h => h.1⟩
theorem one_key {l : List It} (hr : RightO l) {x y : It} (hx : x ∈ l) (hy : y ∈ l) (h : x.key = y.key) : x = y := by
  obtain ⟨i, hi, rfl⟩ := List.mem_iff_getElem.1 hx
  obtain ⟨j, hj, rfl⟩ := List.mem_iff_getElem.1 hy
  rcases Nat.lt_trichotomy i j with q | q | q
  · exact absurd h (kb_ne (rise_at hr (List.getElem?_eq_getElem hi) (List.getElem?_eq_getElem hj) q))
  · subst q; rfl
  · exact absurd h.symm (kb_ne (rise_at hr (List.getElem?_eq_getElem hj) (List.getElem?_eq_getElem hi) q))
theorem putI_len (l : List It) (x : It) : (putI l x).length ≤ l.length + 1 := by
  unfold putI
  simp only [List.length_append, List.length_take, List.length_drop, List.length_singleton]
  split <;> omega
theorem dropI_len (l : List It) (k : ByteArray) : (dropI l k).length ≤ l.length := (dropI_sub l k).length_le

end Go.Proofs.YthihjkdankbnjaaGreat.P10
