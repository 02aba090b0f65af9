/-
  Metas that are written in turn, one of them torn: which one counts. No program.
-/
import Derived.Test.YtnmklhajpcnkoaaMt15
namespace Go.Proofs.Ytnmklhajpcnkoaa.P6
open Go Go.RowKit Go.Lib Go.Proofs.Ytnmklhajpcnkoaa.P0 Go.Proofs.Ytnmklhajpcnkoaa.P2 Go.Proofs.Ytnmklhajpcnkoaa.P5

/-- a sector of which the first c bytes are s's, the others o's -/
def tornOf (s o : ByteArray) (c : Nat) : ByteArray := s.extract 0 c ++ o.extract c o.size
theorem torn_list (s o : ByteArray) (c : Nat) : (tornOf s o c).data.toList = s.data.toList.take c ++ o.data.toList.drop c := by
  unfold tornOf
  rw [text_app, cut_list, from_at6, List.drop_zero, Nat.sub_zero]
theorem eq_of_list {a b : ByteArray} (h : a.data.toList = b.data.toList) : a = b := text_ext h

theorem torn_meta {p q x : Mt} {c : Nat} (hp : p.ok) (hq : q.ok) (hx : x.ok) (hd : p.tx % 4294967296 ≠ q.tx % 4294967296) (h : tornOf p.sector q.sector c = x.sector) : x.sector = p.sector ∨ x.sector = q.sector := by
  have rp := p.ok_range hp
  have rq := q.ok_range hq
  have e : x.sheet.laid = p.sheet.laid.take c ++ q.sheet.laid.drop c := by
    have h1 := torn_list p.sector q.sector c
    rw [h] at h1
    have l : ∀ m : Mt, m.sector.data.toList = m.sheet.laid := fun m => str_list _
    rw [l, l, l] at h1
    exact h1
  have hd' : p.sheet.tx.toNat % 4294967296 ≠ q.sheet.tx.toNat % 4294967296 := by
    show p.tx.toNat % 4294967296 ≠ q.tx.toNat % 4294967296
    omega
  rcases torn_one (p.sheet_ok hp) (q.sheet_ok hq) (x.sheet_ok hx) hd' e with h2 | h2
  · exact .inl (congrArg str h2)
  · exact .inr (congrArg str h2)

theorem laid_eight (m : Mt) (j : Nat) (hj : j < 8) : m.sheet.laid[8 + j]? = (low 8 m.tx.toNat)[j]? := by
  have e : m.sheet.laid = (low 1 m.sheet.k.toNat ++ (low 1 m.sheet.body.size ++ (low 2 m.sheet.id.toNat ++ low 4 m.tx.toNat))) ++ (low 8 m.tx.toNat ++ ((m.sheet.body.data.toList ++ List.replicate (232 - m.sheet.body.size) 0) ++ (low 4 (crc m.sheet.fore) ++ low 4 m.sheet.tx.toNat))) := by
    unfold Pg.laid
    conv => lhs; rw [show m.sheet.fore = low 1 m.sheet.k.toNat ++ (low 1 m.sheet.body.size ++ (low 2 m.sheet.id.toNat ++ (low 4 m.tx.toNat ++ (low 8 m.tx.toNat ++ (m.sheet.body.data.toList ++ List.replicate (232 - m.sheet.body.size) 0))))) from rfl]
    simp only [List.append_assoc]
    rfl
  have l : (low 1 m.sheet.k.toNat ++ (low 1 m.sheet.body.size ++ (low 2 m.sheet.id.toNat ++ low 4 m.tx.toNat))).length = 8 := by simp only [List.length_append, low_length]
  rw [e, List.getElem?_append_right (by rw [l]; omega), l, show 8 + j - 8 = j by omega, List.getElem?_append_left (by rw [low_length]; omega)]
theorem low_at (n v j : Nat) (h : j < n) : (low n v)[j]? = some (UInt8.ofNat (v / 256 ^ j)) := by
  unfold low
  rw [List.getElem?_map, List.getElem?_range h]
  rfl

/-- a first meta torn over zeros is the meta itself, or none -/
theorem torn_zero {p x : Mt} {c : Nat} (hp : p.ok) (hx : x.ok) (hs : p.tx < 256) (hc : c ≤ 256) (h : tornOf p.sector (zer 256) c = x.sector) : x.sector = p.sector := by
  have rp := p.ok_range hp
  have rx := x.ok_range hx
  have lP := p.sheet.laid_len (p.sheet_ok hp)
  have lX := x.sheet.laid_len (x.sheet_ok hx)
  have e : x.sheet.laid = p.sheet.laid.take c ++ (List.replicate 256 0).drop c := by
    have h1 := torn_list p.sector (zer 256) c
    rw [h] at h1
    have l : ∀ m : Mt, m.sector.data.toList = m.sheet.laid := fun m => str_list _
    rw [l, l, zer, str_list] at h1
    exact h1
  have hat : ∀ i, i < 256 → x.sheet.laid[i]? = if i < c then p.sheet.laid[i]? else some 0 := fun i hi => by
    rw [e]
    by_cases hic : i < c
    · rw [if_pos hic, List.getElem?_append_left (by rw [List.length_take]; omega), List.getElem?_take_of_lt hic]
    · rw [if_neg hic, List.getElem?_append_right (by rw [List.length_take]; omega), List.getElem?_drop, List.length_take, List.getElem?_replicate, if_pos (by omega)]
  have tP : p.sheet.tx = p.tx := rfl
  have tX : x.sheet.tx = x.tx := rfl
  -- a byte of a small number
  have small : ∀ j, 1 ≤ j → p.tx.toNat / 256 ^ j = 0 := fun j hj => by
    apply Nat.div_eq_of_lt
    have : 256 ^ 1 ≤ 256 ^ j := Nat.pow_le_pow_right (by decide) hj
    omega
  by_cases h1 : c ≤ 252
  · exfalso
    have z4 : ∀ j, j < 4 → UInt8.ofNat (x.tx.toNat / 256 ^ j) = 0 := fun j hj => by
      have := (laid_at x.sheet (x.sheet_ok hx) j hj).2
      rw [hat _ (by omega), if_neg (by omega), tX, low_at 4 _ j hj] at this
      exact (Option.some.inj this).symm
    have z8 : ∀ j, 1 ≤ j → j < 8 → UInt8.ofNat (x.tx.toNat / 256 ^ j) = 0 := fun j h0 hj => by
      have := laid_eight x j hj
      rw [hat _ (by omega), low_at 8 _ j hj] at this
      by_cases hk : 8 + j < c
      · rw [if_pos hk, laid_eight p j hj, low_at 8 _ j hj, small j h0] at this
        exact (Option.some.inj this).symm
      · rw [if_neg hk] at this
        exact (Option.some.inj this).symm
    have e0 : low 8 x.tx.toNat = low 8 0 := by
      apply List.ext_getElem?
      intro i
      by_cases hi : i < 8
      · rw [low_at 8 _ i hi, low_at 8 _ i hi, Nat.zero_div]
        by_cases h0 : i = 0
        · subst h0; rw [z4 0 (by omega)]; rfl
        · rw [z8 i (by omega) hi]; rfl
      · rw [List.getElem?_eq_none (by rw [low_length]; omega), List.getElem?_eq_none (by rw [low_length]; omega)]
    have := congrArg num e0
    rw [num_low 8 _ (by have : (256 : Nat) ^ 8 = 18446744073709551616 := by decide
                        omega), num_low 8 0 (by decide)] at this
    omega
  · have e2 : x.sheet.laid = p.sheet.laid := by
      apply List.ext_getElem?
      intro i
      by_cases hi : i < 256
      · rw [hat i hi]
        by_cases hic : i < c
        · rw [if_pos hic]
        · rw [if_neg hic]
          obtain ⟨j, rfl⟩ : ∃ j, i = 252 + j := ⟨i - 252, by omega⟩
          rw [(laid_at p.sheet (p.sheet_ok hp) j (by omega)).2, tP, low_at 4 _ j (by omega), small j (by omega)]
          rfl
      · rw [List.getElem?_eq_none (by omega), List.getElem?_eq_none (by omega)]
    exact congrArg str e2

/-- what stands in the two slots behind k metas: the newest one, and the one ahead of it -/
structure Turn (k : Nat) (s0 s1 : ByteArray) : Prop where
  new_ : 1 ≤ k → ∃ m : Mt, m.ok ∧ m.tx = k ∧ (if k % 2 = 0 then s0 else s1) = m.sector
  old_ : 2 ≤ k → ∃ m : Mt, m.ok ∧ m.tx = k - 1 ∧ (if k % 2 = 0 then s1 else s0) = m.sector
  none_ : k ≤ 1 → (if k % 2 = 0 then s1 else s0) = ⟨#[]⟩
  zero_ : k = 0 → s0 = ⟨#[]⟩ ∧ s1 = ⟨#[]⟩
theorem Turn.start : Turn 0 ⟨#[]⟩ ⟨#[]⟩ := ⟨fun h => absurd h (by decide), fun h => absurd h (by decide), fun _ => rfl, fun _ => ⟨rfl, rfl⟩⟩
theorem empty_none : readR ⟨#[]⟩ ≠ 0 := by
  have := (read_len (b := ⟨#[]⟩) (by decide)).2
  unfold readR
  rw [this]
  decide
theorem stand_empty (c : Int) : standM ⟨#[]⟩ c = Mt.zero := stand_no (fun k => empty_none k.1)

/-- the sector that stands where the next one goes: zeros, if none does -/
def oldOf (s : ByteArray) : ByteArray := if s = ⟨#[]⟩ then zer 256 else s
theorem mt_parity (k : Nat) : (k : Int) % 2 = ((k % 2 : Nat) : Int) := by omega

/-- where the next meta goes -/
def slotOf (k : Nat) (s0 s1 : ByteArray) : ByteArray := if k % 2 = 0 then s1 else s0
theorem torn_stand {k : Nat} {s0 s1 : ByteArray} (h : Turn k s0 s1) (hk : k < 30) {p : Mt} (hp : p.ok) (ht : p.tx = k + 1) {c : Nat} (hc : c ≤ 256) {d : Int} :
    tornOf p.sector (oldOf (slotOf k s0 s1)) c ≠ p.sector → (standM (tornOf p.sector (oldOf (slotOf k s0 s1)) c) d).tx < k ∨ k = 0 ∧ standM (tornOf p.sector (oldOf (slotOf k s0 s1)) c) d = Mt.zero := by
  intro hne
  generalize hT : tornOf p.sector (oldOf (slotOf k s0 s1)) c = T at *
  by_cases hr : readR T = 0
  · obtain ⟨x, hx, rfl, _⟩ := meta_there hr
    by_cases hk2 : 2 ≤ k
    · obtain ⟨q, hq, hqt, hqs⟩ := h.old_ hk2
      have eo : oldOf (slotOf k s0 s1) = q.sector := by
        unfold oldOf slotOf
        rw [hqs, if_neg (fun e => by have := q.sector_size hq; rw [e] at this; exact absurd this (by decide))]
      rw [eo] at hT
      rcases torn_meta hp hq hx (by omega) hT with e | e
      · exact absurd e hne
      · left
        have exq := msector_inj hx hq e
        rw [stand_sector hx, exq]
        split
        · omega
        · show (0 : Int) < k
          omega
    · have eo : oldOf (slotOf k s0 s1) = zer 256 := by
        unfold oldOf slotOf
        rw [h.none_ (by omega), if_pos rfl]
      rw [eo] at hT
      exact absurd (torn_zero hp hx (by omega) hc hT) hne
  · have e : standM T d = Mt.zero := stand_no (fun q => hr q.1)
    rw [e]
    by_cases h0 : k = 0
    · exact .inr ⟨h0, rfl⟩
    · left
      show (0 : Int) < k
      omega

/-- what the two slots tell while the next meta is torn -/
theorem turn_torn {k : Nat} {s0 s1 : ByteArray} (h : Turn k s0 s1) (hk : k < 30) {p : Mt} (hp : p.ok) (ht : p.tx = k + 1) {c : Nat} (hc : c ≤ 256) {t0 t1 : ByteArray}
    (e0 : t0 = if k % 2 = 0 then s0 else tornOf p.sector (oldOf (slotOf k s0 s1)) c) (e1 : t1 = if k % 2 = 0 then tornOf p.sector (oldOf (slotOf k s0 s1)) c else s1) :
    (tornOf p.sector (oldOf (slotOf k s0 s1)) c = p.sector → chM t0 t1 = p ∧ chE t0 t1 = 0) ∧
    (tornOf p.sector (oldOf (slotOf k s0 s1)) c ≠ p.sector → k = 0 → chE t0 t1 = 25) ∧
    (tornOf p.sector (oldOf (slotOf k s0 s1)) c ≠ p.sector → 1 ≤ k → (chM t0 t1).tx = k ∧ chE t0 t1 = 0) := by
  have TS := fun d => torn_stand h hk hp ht hc (d := d)
  generalize tornOf p.sector (oldOf (slotOf k s0 s1)) c = T at *
  have rp := p.ok_range hp
  by_cases hpar : k % 2 = 0
  · rw [if_pos hpar] at e0 e1
    subst e0 e1
    refine ⟨fun e => ?_, fun hne hk0 => ?_, fun hne hk1 => ?_⟩
    · have e1 : standM t1 1 = p := by rw [e, stand_sector hp, if_pos (by omega)]
      refine ch_y e1 (by omega) ?_
      by_cases hk1 : 1 ≤ k
      · obtain ⟨m, hm, hmt, hms⟩ := h.new_ hk1
        rw [if_pos hpar] at hms
        rw [hms, stand_sector hm]
        split
        · omega
        · show (0 : Int) < p.tx
          omega
      · rw [(h.zero_ (by omega)).1, stand_empty]
        show (0 : Int) < p.tx
        omega
    · refine (ch_none ?_ ?_).2
      · rw [(h.zero_ hk0).1]; exact stand_empty 0
      · rcases TS 1 hne with q | q
        · exfalso
          have hr : (standM t1 1).tx = 0 ∨ 1 ≤ (standM t1 1).tx := by
            by_cases hr : readR t1 = 0
            · obtain ⟨x, hx, rfl, _⟩ := meta_there hr
              have := x.ok_range hx
              rw [stand_sector hx]
              split
              · right; omega
              · left; rfl
            · left; rw [stand_no (fun q => hr q.1)]; rfl
          omega
        · exact q.2
    · obtain ⟨m, hm, hmt, hms⟩ := h.new_ hk1
      rw [if_pos hpar] at hms
      have ex : standM t0 0 = m := by rw [hms, stand_sector hm, if_pos (by omega)]
      rcases TS 1 hne with q | q
      · obtain ⟨a1, a2⟩ := ch_x (b := t1) ex (by omega) (by omega)
        exact ⟨by rw [a1]; exact hmt, a2⟩
      · omega
  · rw [if_neg hpar] at e0 e1
    subst e0 e1
    refine ⟨fun e => ?_, fun hne hk0 => by omega, fun hne hk1 => ?_⟩
    · have e1 : standM t0 0 = p := by rw [e, stand_sector hp, if_pos (by omega)]
      refine ch_x e1 (by omega) ?_
      obtain ⟨m, hm, hmt, hms⟩ := h.new_ (by omega)
      rw [if_neg hpar] at hms
      rw [hms, stand_sector hm]
      split
      · omega
      · show ¬ p.tx < 0
        omega
    · obtain ⟨m, hm, hmt, hms⟩ := h.new_ hk1
      rw [if_neg hpar] at hms
      have ex : standM t1 1 = m := by rw [hms, stand_sector hm, if_pos (by omega)]
      rcases TS 0 hne with q | q
      · obtain ⟨a1, a2⟩ := ch_y (a := t0) ex (by omega) (by omega)
        exact ⟨by rw [a1]; exact hmt, a2⟩
      · omega

/-- behind the next meta -/
theorem turn_next {k : Nat} {s0 s1 : ByteArray} (h : Turn k s0 s1) {p : Mt} (hp : p.ok) (ht : p.tx = k + 1) {t0 t1 : ByteArray}
    (e0 : t0 = if k % 2 = 0 then s0 else p.sector) (e1 : t1 = if k % 2 = 0 then p.sector else s1) :
    Turn (k + 1) t0 t1 ∧ chM t0 t1 = p ∧ chE t0 t1 = 0 := by
  have rp := p.ok_range hp
  by_cases hpar : k % 2 = 0
  · rw [if_pos hpar] at e0 e1
    have hp1 : ¬ (k + 1) % 2 = 0 := by omega
    subst e0 e1
    refine ⟨⟨fun _ => ⟨p, hp, by omega, by rw [if_neg hp1]⟩, fun h2 => ?_, fun h1 => ?_, fun h0 => absurd h0 (by omega)⟩, ?_⟩
    · obtain ⟨m, hm, hmt, hms⟩ := h.new_ (by omega)
      rw [if_pos hpar] at hms
      exact ⟨m, hm, by omega, by rw [if_neg hp1]; exact hms⟩
    · rw [if_neg hp1]
      exact (h.zero_ (by omega)).1
    · have e1 : standM p.sector 1 = p := by rw [stand_sector hp, if_pos (by omega)]
      refine ch_y e1 (by omega) ?_
      by_cases hk1 : 1 ≤ k
      · obtain ⟨m, hm, hmt, hms⟩ := h.new_ hk1
        rw [if_pos hpar] at hms
        rw [hms, stand_sector hm]
        split
        · omega
        · show (0 : Int) < p.tx
          omega
      · rw [(h.zero_ (by omega)).1, stand_empty]
        show (0 : Int) < p.tx
        omega
  · rw [if_neg hpar] at e0 e1
    have hp1 : (k + 1) % 2 = 0 := by omega
    subst e0 e1
    refine ⟨⟨fun _ => ⟨p, hp, by omega, by rw [if_pos hp1]⟩, fun h2 => ?_, fun h1 => absurd h1 (by omega), fun h0 => absurd h0 (by omega)⟩, ?_⟩
    · obtain ⟨m, hm, hmt, hms⟩ := h.new_ (by omega)
      rw [if_neg hpar] at hms
      exact ⟨m, hm, by omega, by rw [if_pos hp1]; exact hms⟩
    · have e1 : standM p.sector 0 = p := by rw [stand_sector hp, if_pos (by omega)]
      refine ch_x e1 (by omega) ?_
      obtain ⟨m, hm, hmt, hms⟩ := h.new_ (by omega)
      rw [if_neg hpar] at hms
      rw [hms, stand_sector hm]
      split
      · omega
      · show ¬ p.tx < 0
        omega

end Go.Proofs.Ytnmklhajpcnkoaa.P6
