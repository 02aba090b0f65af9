/-
  Items put one by one, dropped one by one: what is there then.
-/
import Derived.Test.YtloajjaaidmaiaaU4
namespace Go.Proofs.Ytloajjaaidmaiaa.P9
open Go Go.RowKit Go.Lib Go.Proofs.Ytloajjaaidmaiaa.PK

def putsI (l : List It) : List It := l.foldl (fun s x => if x.ok = true then putI s x else s) []
theorem putsI_next {l : List It} {i : Nat} {x : It} (h : l[i]? = some x) : putsI (l.take (i + 1)) = if x.ok = true then putI (putsI (l.take i)) x else putsI (l.take i) := by
  rw [List.take_add_one, h]
  unfold putsI
  simp
theorem putsI_right (l : List It) : ∀ n, RightI (putsI (l.take n))
  | 0 => RightI.nil
  | n + 1 => by
    by_cases hn : n < l.length
    · obtain ⟨x, hx⟩ : ∃ x, l[n]? = some x := ⟨_, List.getElem?_eq_getElem hn⟩
      rw [putsI_next hx]
      by_cases hok : x.ok = true
      · rw [if_pos hok]; exact putI_right (putsI_right l n) hok
      · rw [if_neg hok]; exact putsI_right l n
    · have := putsI_right l n
      rw [List.take_of_length_le (by omega)] at this ⊢
      exact this
theorem putsI_len (l : List It) : ∀ n, (putsI (l.take n)).length ≤ n
  | 0 => Nat.le_refl _
  | n + 1 => by
    have ih := putsI_len l n
    by_cases hn : n < l.length
    · obtain ⟨x, hx⟩ : ∃ x, l[n]? = some x := ⟨_, List.getElem?_eq_getElem hn⟩
      rw [putsI_next hx]
      by_cases hok : x.ok = true
      · rw [if_pos hok]
        have := putI_len (putsI (l.take n)) x
        omega
      · rw [if_neg hok]; omega
    · rw [List.take_of_length_le (by omega)] at ih ⊢
      omega
/-- the last one of a key is there -/
theorem putsI_last (l : List It) : ∀ n, n ≤ l.length → ∀ (i : Nat) (x : It), i < n → l[i]? = some x → x.ok = true → (∀ (j : Nat) (z : It), i < j → j < n → l[j]? = some z → z.ok = true → z.key ≠ x.key) → x ∈ putsI (l.take n)
  | 0, _, i, x, h, _, _, _ => absurd h (Nat.not_lt_zero _)
  | n + 1, hn, i, x, hi, hx, hok, hl => by
    obtain ⟨y, hy⟩ : ∃ x, l[n]? = some x := ⟨_, List.getElem?_eq_getElem (by omega)⟩
    rw [putsI_next hy]
    by_cases hyk : y.ok = true
    · rw [if_pos hyk, mem_putI (putsI_right l n)]
      by_cases e : i = n
      · subst e
        rw [hx] at hy
        exact .inl (Option.some.inj hy)
      · exact .inr ⟨putsI_last l n (by omega) i x (by omega) hx hok (fun j z h1 h2 => hl j z h1 (by omega)), fun q => hl n y (by omega) (by omega) hy hyk q.symm⟩
    · rw [if_neg hyk]
      have e : i ≠ n := fun e => by
        subst e
        rw [hx] at hy
        rw [Option.some.inj hy] at hok
        exact hyk hok
      exact putsI_last l n (by omega) i x (by omega) hx hok (fun j z h1 h2 => hl j z h1 (by omega))
/-- each key is there -/
theorem putsI_key (l : List It) : ∀ n, n ≤ l.length → ∀ (i : Nat) (x : It), i < n → l[i]? = some x → x.ok = true → ∃ z, z ∈ putsI (l.take n) ∧ z.key = x.key
  | 0, _, i, x, h, _, _ => absurd h (Nat.not_lt_zero _)
  | n + 1, hn, i, x, hi, hx, hok => by
    obtain ⟨y, hy⟩ : ∃ x, l[n]? = some x := ⟨_, List.getElem?_eq_getElem (by omega)⟩
    rw [putsI_next hy]
    by_cases hyk : y.ok = true
    · rw [if_pos hyk]
      by_cases e : i = n
      · subst e
        rw [hx] at hy
        obtain rfl := Option.some.inj hy
        exact ⟨x, (mem_putI (putsI_right l _) _ _).2 (.inl rfl), rfl⟩
      · obtain ⟨z, hz, hzk⟩ := putsI_key l n (by omega) i x (by omega) hx hok
        by_cases q : z.key = y.key
        · exact ⟨y, (mem_putI (putsI_right l _) _ _).2 (.inl rfl), by rw [← q, hzk]⟩
        · exact ⟨z, (mem_putI (putsI_right l _) _ _).2 (.inr ⟨hz, q⟩), hzk⟩
    · rw [if_neg hyk]
      have e : i ≠ n := fun e => by
        subst e
        rw [hx] at hy
        rw [Option.some.inj hy] at hok
        exact hyk hok
      exact putsI_key l n (by omega) i x (by omega) hx hok

def dropsI (l : List It) (ds : List ByteArray) : List It := ds.foldl dropI l
theorem dropsI_next {l : List It} {ds : List ByteArray} {j : Nat} {d : ByteArray} (h : ds[j]? = some d) : dropsI l (ds.take (j + 1)) = dropI (dropsI l (ds.take j)) d := by
  rw [List.take_add_one, h]
  unfold dropsI
  simp
theorem dropsI_right {l : List It} (h : RightI l) : ∀ ds : List ByteArray, RightI (dropsI l ds) := fun ds => by
  unfold dropsI
  induction ds generalizing l with
  | nil => exact h
  | cons d ds ih => exact ih (dropI_right h d)
theorem mem_dropsI {l : List It} (h : RightI l) (ds : List ByteArray) (y : It) : y ∈ dropsI l ds ↔ y ∈ l ∧ y.key ∉ ds := by
  unfold dropsI
  induction ds generalizing l with
  | nil => simp
  | cons d ds ih =>
    rw [List.foldl_cons, ih (dropI_right h d), mem_dropI h]
    simp only [List.mem_cons, not_or]
    exact ⟨fun ⟨⟨a, b⟩, c⟩ => ⟨a, b, c⟩, fun ⟨a, b, c⟩ => ⟨⟨a, b⟩, c⟩⟩
theorem dropsI_len (l : List It) (ds : List ByteArray) : (dropsI l ds).length ≤ l.length := by
  unfold dropsI
  induction ds generalizing l with
  | nil => exact Nat.le_refl _
  | cons d ds ih => exact Nat.le_trans (ih _) (dropI_len l d)
/-- what is left: a key is there, just where it was not dropped; the last one of a key is the one -/
theorem left_has {l : List It} {ds : List ByteArray} {i : Nat} {x : It} (hx : l[i]? = some x) (hok : x.ok = true) : hasK (dropsI (putsI l) ds) x.key = true ↔ x.key ∉ ds := by
  have hr := putsI_right l l.length
  rw [List.take_length] at hr
  rw [hasK_iff]
  constructor
  · intro h
    obtain ⟨z, hz, hk⟩ := List.mem_map.1 h
    have := (mem_dropsI hr ds z).1 hz
    rw [← hk]
    exact this.2
  · intro h
    obtain ⟨z, hz, hk⟩ := putsI_key l l.length (Nat.le_refl _) i x (List.getElem?_eq_some_iff.1 hx).1 hx hok
    rw [List.take_length] at hz
    exact List.mem_map.2 ⟨z, (mem_dropsI hr ds z).2 ⟨hz, by rw [hk]; exact h⟩, hk⟩
theorem left_last {l : List It} {ds : List ByteArray} {i : Nat} {x : It} (hx : l[i]? = some x) (hok : x.ok = true) (hd : x.key ∉ ds) (hl : ∀ (j : Nat) (z : It), i < j → l[j]? = some z → z.ok = true → z.key ≠ x.key) : (dropsI (putsI l) ds)[lowK (dropsI (putsI l) ds) x.key]? = some x := by
  have hr := putsI_right l l.length
  rw [List.take_length] at hr
  have hm := putsI_last l l.length (Nat.le_refl _) i x (List.getElem?_eq_some_iff.1 hx).1 hx hok (fun j z h1 _ => hl j z h1)
  rw [List.take_length] at hm
  have hm2 := (mem_dropsI hr ds x).2 ⟨hm, hd⟩
  have hr2 := dropsI_right hr ds
  obtain ⟨z, hz, hk⟩ := lowK_hit hr2 (hasK_iff.1 ((left_has hx hok).2 hd))
  rw [hz, one_key hr2 (List.mem_of_getElem? hz) hm2 hk]
theorem left_right (l : List It) (ds : List ByteArray) : RightI (dropsI (putsI l) ds) := by
  have hr := putsI_right l l.length
  rw [List.take_length] at hr
  exact dropsI_right hr ds
theorem dropI_gone {l : List It} (h : RightI l) (k : ByteArray) : hasK (dropI l k) k = false := by
  rw [hasK_not]
  intro hm
  obtain ⟨z, hz, hk⟩ := List.mem_map.1 hm
  exact ((mem_dropI h k z).1 hz).2 hk

end Go.Proofs.Ytloajjaaidmaiaa.P9
