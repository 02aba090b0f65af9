/-
  Texts of the proof of SaidKeeps8, side by side: Pg6.
-/
import Derived.Test.YtbkngnjkaledlaaGreatMk26
/-
  Pages in sectors, in plain words: what a sector reads as; sectors that are torn or changed. No program.
-/
namespace Go.Proofs.YtbkngnjkaledlaaGreat.P5
open Go Go.RowKit Go.Lib Go.Proofs.YtbkngnjkaledlaaGreat.P0 Go.Proofs.YtbkngnjkaledlaaGreat.P2

/-- what a sector's bytes say -/
def kOf (l : List UInt8) : Nat := (l.getD 0 0).toNat
def nOf (l : List UInt8) : Nat := (l.getD 1 0).toNat
def idOf (l : List UInt8) : Int := wrap64 (num ((l.drop 2).take 2))
def txOf (l : List UInt8) : Int := wrap64 (num ((l.drop 8).take 8))
def Pg.of (b : ByteArray) : Pg := ⟨kOf b.data.toList, idOf b.data.toList, txOf b.data.toList, b.extract 16 (16 + nOf b.data.toList)⟩

theorem low1 (x : Nat) : low 1 x = [UInt8.ofNat x] := by simp [low, List.range, List.range.loop]
theorem low2 (x : Nat) : low 2 x = [UInt8.ofNat x, UInt8.ofNat (x / 256)] := by simp [low, List.range, List.range.loop]
theorem low_four (x : Nat) : ∃ a b c d, low 4 x = [a, b, c, d] := ⟨_, _, _, _, rfl⟩
theorem low_eight (x : Nat) : ∃ a b c d e f g h, low 8 x = [a, b, c, d, e, f, g, h] := ⟨_, _, _, _, _, _, _, _, rfl⟩
theorem wrap_small {n : Nat} (h : n < 9223372036854775808) : wrap64 (n : Int) = n := by
  unfold wrap64
  omega

theorem of_sector {p : Pg} (h : p.ok) : Pg.of p.sector = p := by
  obtain ⟨k, id, tx, body⟩ := p
  obtain ⟨h1, h2, h3, h4, h5, h6, h7⟩ := h
  simp only at h1 h2 h3 h4 h5 h6 h7
  obtain ⟨k, rfl⟩ := Int.eq_ofNat_of_zero_le (show 0 ≤ k by omega)
  obtain ⟨id, rfl⟩ := Int.eq_ofNat_of_zero_le h3
  obtain ⟨tx, rfl⟩ := Int.eq_ofNat_of_zero_le h5
  have eT : ∀ r, (body.data.toList ++ r).take body.size = body.data.toList := fun r => by rw [← text_len body, List.take_left]
  have e2 : num (low 2 id) = id := num_low 2 id (by omega)
  have e8 : num (low 8 tx) = tx := num_low 8 tx (by omega)
  obtain ⟨a, b, c, d, e4⟩ := low_four tx
  obtain ⟨i0, i1, i2, i3, i4, i5, i6, i7, e9⟩ := low_eight tx
  have eL : (Pg.mk k id tx body).laid = UInt8.ofNat k :: UInt8.ofNat body.size :: UInt8.ofNat id :: UInt8.ofNat (id / 256) :: a :: b :: c :: d :: i0 :: i1 :: i2 :: i3 :: i4 :: i5 :: i6 :: i7 :: (body.data.toList ++ (List.replicate (232 - body.size) 0 ++ (low 4 (crc (Pg.mk k id tx body).fore) ++ low 4 tx))) := by
    simp only [Pg.laid, Pg.fore, P5.fore, Int.toNat_natCast, low1, low2, e4, e9, List.cons_append, List.nil_append, List.append_assoc]
  rw [e9] at e8
  rw [low2] at e2
  generalize (Pg.mk k id tx body).fore = F at eL
  unfold Pg.of
  have hl : (Pg.mk k id tx body).sector.data.toList = (Pg.mk k id tx body).laid := str_list _
  have hx : (Pg.mk k id tx body).sector.extract 16 (16 + nOf (Pg.mk k id tx body).laid) = body := by
    apply text_ext
    rw [Lib.extract_data, hl, eL]
    have : nOf (UInt8.ofNat k :: UInt8.ofNat body.size :: UInt8.ofNat id :: UInt8.ofNat (id / 256) :: a :: b :: c :: d :: i0 :: i1 :: i2 :: i3 :: i4 :: i5 :: i6 :: i7 :: (body.data.toList ++ (List.replicate (232 - body.size) 0 ++ (low 4 (crc F) ++ low 4 tx)))) = body.size := ofNat_toNat (by omega)
    rw [this, show 16 + body.size - 16 = body.size by omega]
    exact eT _
  rw [hl, hx]
  have hk : kOf (Pg.mk k id tx body).laid = k := by rw [eL]; exact ofNat_toNat (by omega)
  have hi : idOf (Pg.mk k id tx body).laid = id := by rw [eL]; show wrap64 (num [UInt8.ofNat id, UInt8.ofNat (id / 256)] : Nat) = _; rw [e2]; exact wrap_small (by omega)
  have ht : txOf (Pg.mk k id tx body).laid = tx := by rw [eL]; show wrap64 (num [i0, i1, i2, i3, i4, i5, i6, i7] : Nat) = _; rw [e8]; exact wrap_small (by omega)
  rw [hk, hi, ht]
theorem sector_inj {p q : Pg} (hp : p.ok) (hq : q.ok) (h : p.sector = q.sector) : p = q := by rw [← of_sector hp, h, of_sector hq]

/-- what Read tells -/
def readP (b : ByteArray) : Pg := if b.size = 256 ∧ (Pg.of b).ok ∧ b = (Pg.of b).sector then Pg.of b else Pg.zero
def readE (b : ByteArray) : Int :=
  if b.size = 256 then (if nOf b.data.toList ≤ 232 ∧ (Pg.of b).ok ∧ b.extract 0 248 = (Pg.of b).sector.extract 0 248 ∧ b.extract 252 b.size = (Pg.of b).sector.extract 252 (Pg.of b).sector.size then (if b = (Pg.of b).sector then 0 else 7) else 6) else 5
theorem read_yes {p : Pg} (h : p.ok) : readP p.sector = p ∧ readE p.sector = 0 := by
  have hs := p.sector_size h
  have hn : nOf p.sector.data.toList ≤ 232 := by
    have e := congrArg Pg.body (of_sector h)
    have e := congrArg ByteArray.size e
    simp only [Pg.of, ByteArray.size_extract, hs] at e
    have := h.2.2.2.2.2.2
    omega
  unfold readP readE
  rw [of_sector h, if_pos hs, if_pos ⟨hs, h, rfl⟩, if_pos ⟨hn, h, rfl, rfl⟩, if_pos rfl]
  exact ⟨rfl, rfl⟩
/-- a sector that is no page's is told so -/
theorem read_no {b : ByteArray} (hs : b.size = 256) (h : ∀ p : Pg, p.ok → b ≠ p.sector) : readP b = Pg.zero ∧ (readE b = 6 ∨ readE b = 7) := by
  unfold readP readE
  rw [if_pos hs, if_neg (fun k => h _ k.2.1 k.2.2)]
  refine ⟨rfl, ?_⟩
  by_cases h1 : nOf b.data.toList ≤ 232 ∧ (Pg.of b).ok ∧ b.extract 0 248 = (Pg.of b).sector.extract 0 248 ∧ b.extract 252 b.size = (Pg.of b).sector.extract 252 (Pg.of b).sector.size
  · rw [if_pos h1, if_neg (h _ h1.2.1)]; exact .inr rfl
  · rw [if_neg h1]; exact .inl rfl
theorem read_len {b : ByteArray} (hs : b.size ≠ 256) : readP b = Pg.zero ∧ readE b = 5 := ⟨if_neg (fun k => hs k.1), if_neg hs⟩

/-- a sector in parts: four bytes, the Tx, the others, the sum, the Tx once more -/
theorem laid_parts (p : Pg) (h : p.ok) : ∃ A M : List UInt8, A.length = 4 ∧ M.length = 240 ∧ p.fore = A ++ (low 4 p.tx.toNat ++ M) ∧ p.laid = A ++ (low 4 p.tx.toNat ++ (M ++ (low 4 (crc (A ++ (low 4 p.tx.toNat ++ M))) ++ low 4 p.tx.toNat))) := by
  refine ⟨low 1 p.k.toNat ++ (low 1 p.body.size ++ low 2 p.id.toNat), low 8 p.tx.toNat ++ (p.body.data.toList ++ List.replicate (232 - p.body.size) 0), ?_, ?_, ?_, ?_⟩
  · simp only [List.length_append, low_length]
  · have := h.2.2.2.2.2.2
    simp only [List.length_append, low_length, List.length_replicate, text_len]
    omega
  · simp only [Pg.fore, P5.fore, List.append_assoc]
  · simp only [Pg.laid, Pg.fore, P5.fore, List.append_assoc]
theorem crc_low {a b : List UInt8} (h : low 4 (crc a) = low 4 (crc b)) : crc a = crc b := low4_inj (crc_lt a) (crc_lt b) h

theorem laid_at (p : Pg) (h : p.ok) (j : Nat) (hj : j < 4) : p.laid[4 + j]? = (low 4 p.tx.toNat)[j]? ∧ p.laid[252 + j]? = (low 4 p.tx.toNat)[j]? := by
  obtain ⟨A, M, hA, hM, _, e⟩ := laid_parts p h
  have lt : ∀ n, (low 4 n).length = 4 := fun n => low_length 4 n
  rw [e]
  generalize low 4 (crc (A ++ (low 4 p.tx.toNat ++ M))) = S at *
  constructor
  · rw [List.getElem?_append_right (by omega), List.getElem?_append_left (by rw [lt]; omega), show 4 + j - A.length = j by omega]
  · have hS : S.length = 4 := by
      have l1 := p.laid_len h
      rw [e] at l1
      simp only [List.length_append, lt] at l1
      omega
    rw [List.getElem?_append_right (by omega), List.getElem?_append_right (by rw [lt]; omega), List.getElem?_append_right (by rw [lt]; omega), List.getElem?_append_right (by rw [lt]; omega)]
    congr 1
    rw [lt]
    omega
theorem low_same {x y : Nat} (h : ∀ j, j < 4 → (low 4 x)[j]? = (low 4 y)[j]?) : low 4 x = low 4 y := by
  apply List.ext_getElem?
  intro i
  by_cases hi : i < 4
  · exact h i hi
  · rw [List.getElem?_eq_none (by rw [low_length]; omega), List.getElem?_eq_none (by rw [low_length]; omega)]
/-- two sectors that are alike behind the first four bytes are one -/
theorem behind_four {p q : Pg} (hp : p.ok) (hq : q.ok) (h : ∀ i, 4 ≤ i → p.laid[i]? = q.laid[i]?) : p.laid = q.laid := by
  obtain ⟨A, M, hA, hM, _, eP⟩ := laid_parts p hp
  obtain ⟨B, N, hB, hN, _, eQ⟩ := laid_parts q hq
  have lt : ∀ n, (low 4 n).length = 4 := fun n => low_length 4 n
  have e : p.laid.drop 4 = q.laid.drop 4 := by
    apply List.ext_getElem?
    intro i
    rw [List.getElem?_drop, List.getElem?_drop]
    exact h _ (by omega)
  rw [eP, eQ, List.drop_left' hA, List.drop_left' hB] at e
  obtain ⟨e1, e⟩ := List.append_inj e (by rw [lt, lt])
  obtain ⟨e2, e⟩ := List.append_inj e (by omega)
  obtain ⟨e3, _⟩ := List.append_inj e (by rw [lt, lt])
  subst e2
  rw [← e1] at e3
  have eA := crc_four (by omega) (by omega) (crc_low e3)
  subst eA
  rw [eP, eQ, ← e1]
theorem torn_one {p q x : Pg} {c : Nat} (hp : p.ok) (hq : q.ok) (hx : x.ok) (hd : p.tx.toNat % 4294967296 ≠ q.tx.toNat % 4294967296) (h : x.laid = p.laid.take c ++ q.laid.drop c) : x.laid = p.laid ∨ x.laid = q.laid := by
  have lP := p.laid_len hp
  have lQ := q.laid_len hq
  have lX := x.laid_len hx
  have hat : ∀ i, i < 256 → x.laid[i]? = if i < c then p.laid[i]? else q.laid[i]? := fun i hi => by
    rw [h]
    by_cases hic : i < c
    · rw [if_pos hic, List.getElem?_append_left (by rw [List.length_take]; omega), List.getElem?_take_of_lt hic]
    · rw [if_neg hic, List.getElem?_append_right (by rw [List.length_take]; omega), List.getElem?_drop, List.length_take]
      congr 1
      omega
  by_cases h1 : c ≤ 252
  · have e1 : low 4 x.tx.toNat = low 4 q.tx.toNat := low_same fun j hj => by
      rw [← (laid_at x hx j hj).2, ← (laid_at q hq j hj).2, hat _ (by omega), if_neg (by omega)]
    by_cases h2 : c ≤ 8
    · right
      refine behind_four hx hq fun i hi => ?_
      by_cases h8 : i < 8
      · obtain ⟨j, rfl⟩ : ∃ j, i = 4 + j := ⟨i - 4, by omega⟩
        rw [(laid_at x hx j (by omega)).1, (laid_at q hq j (by omega)).1, e1]
      · by_cases hi2 : i < 256
        · rw [hat i hi2, if_neg (by omega)]
        · rw [List.getElem?_eq_none (by omega), List.getElem?_eq_none (by omega)]
    · exfalso
      have e2 : low 4 x.tx.toNat = low 4 p.tx.toNat := low_same fun j hj => by
        rw [← (laid_at x hx j hj).1, ← (laid_at p hp j hj).1, hat _ (by omega), if_pos (by omega)]
      exact hd (low4_mod (e2.symm.trans e1))
  · left
    have e2 : low 4 x.tx.toNat = low 4 p.tx.toNat := low_same fun j hj => by
      rw [← (laid_at x hx j hj).1, ← (laid_at p hp j hj).1, hat _ (by omega), if_pos (by omega)]
    apply List.ext_getElem?
    intro i
    by_cases hi : i < 252
    · rw [hat i (by omega), if_pos (by omega)]
    · by_cases hi2 : i < 256
      · obtain ⟨j, rfl⟩ : ∃ j, i = 252 + j := ⟨i - 252, by omega⟩
        rw [(laid_at x hx j (by omega)).2, (laid_at p hp j (by omega)).2, e2]
      · rw [List.getElem?_eq_none (by omega), List.getElem?_eq_none (by omega)]

/-- a sector in which one byte is another is no page's -/
theorem changed_none {p x : Pg} (hp : p.ok) (hx : x.ok) {i : Nat} {c : UInt8} (hi : i < p.laid.length) (hc : c ≠ p.laid[i]) : x.laid ≠ p.laid.set i c := by
  intro h
  have fX := x.fore_len hx
  have fP := p.fore_len hp
  have lP := p.laid_len hp
  have eP : p.laid = p.fore ++ (low 4 (crc p.fore) ++ low 4 p.tx.toNat) := rfl
  have eX : x.laid = x.fore ++ (low 4 (crc x.fore) ++ low 4 x.tx.toNat) := rfl
  by_cases h1 : i < 248
  · have hi' : i < p.fore.length := by omega
    rw [eX, eP, List.set_append_left _ _ hi'] at h
    obtain ⟨e1, e2⟩ := List.append_inj h (by rw [List.length_set]; omega)
    obtain ⟨e3, _⟩ := List.append_inj e2 (by rw [low_length, low_length])
    have e4 := crc_low e3
    rw [e1] at e4
    have hv : c ≠ p.fore[i] := by
      have : p.laid[i] = p.fore[i] := by simp only [eP, List.getElem_append_left hi']
      rwa [this] at hc
    obtain ⟨a, r, e5, e6⟩ := set_differs c hi'
    rw [e6] at e4
    generalize p.fore[i] = d at e5 hv
    rw [e5] at e4
    exact crc_differs hv e4
  · have e1 : x.fore = p.fore := by
      have e := congrArg (List.take 248) h
      rw [List.take_set_of_le (by omega), eX, eP, ← fX, List.take_left, fX, ← fP, List.take_left] at e
      exact e
    have e2 : low 4 x.tx.toNat = low 4 p.tx.toNat := low_same fun j hj => by
      have e := congrArg (fun l => l[4 + j]?) e1
      rw [← (laid_at x hx j hj).1, ← (laid_at p hp j hj).1, eX, eP, List.getElem?_append_left (by omega), List.getElem?_append_left (by omega)]
      exact e
    have e3 : x.laid = p.laid := by rw [eX, eP, e1, e2]
    rw [e3] at h
    have := congrArg (fun l => l[i]?) h
    simp only [List.getElem?_set_self hi, List.getElem?_eq_getElem hi, Option.some.injEq] at this
    exact hc this.symm

end Go.Proofs.YtbkngnjkaledlaaGreat.P5
