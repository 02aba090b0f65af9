/-
  Texts of the proof of SaidKeeps8, side by side: Kp0, St7.
-/
import Derived.Test.YtbkngnjkaledlaaGreatMk39
import Derived.Test.YtbkngnjkaledlaaGreatMk22
/-
  Pages put, synced, others put behind them, a crash: what is read then. No program. (StoreKeeps.)
-/
namespace Go.Proofs.YtbkngnjkaledlaaGreat.P8
open Go Go.RowKit Go.Lib Go.Maps Go.ChangeMaps Go.MapKept Go.Proofs.YtbkngnjkaledlaaGreat.P3 Go.Proofs.YtbkngnjkaledlaaGreat.P4
open Go.Proofs.YtbkngnjkaledlaaGreat.P5 (Pg zer zer_size)

/-- what stands at a place, zeros behind the end -/
def vw (L : List ByteArray) (j : Nat) : ByteArray := L.getD j zeros
theorem vw_nil (j : Nat) : vw [] j = zeros := rfl
theorem vw_past {L : List ByteArray} {j : Nat} (h : L.length ≤ j) : vw L j = zeros := by
  unfold vw; rw [List.getD_eq_getElem?_getD, List.getElem?_eq_none h]; rfl
theorem zer_zeros : zer 256 = zeros := rfl
/-- a file alone, or none -/
def ofF (n : List UInt8) : Option AF → AL
  | none => []
  | some F => [(n, F)]
def fresh : AF := ⟨[], [], false, []⟩
def nowF (o : Option AF) : List ByteArray := (o.getD fresh).now
theorem getA_of (n : List UInt8) (o : Option AF) : getA (ofF n o) n = o := by cases o <;> simp [ofF, getA]
theorem restA_of (n : List UInt8) (o : Option AF) : restA (ofF n o) n = [] := by cases o <;> simp [ofF, restA]
theorem sizeA_of (n : List UInt8) (o : Option AF) : sizeA (ofF n o) n = (nowF o).length := by unfold sizeA; rw [getA_of]; cases o <;> rfl
/-- writes, on a file -/
def runF : Option AF → Nat → List (Int × ByteArray) → Option AF
  | o, _, [] => o
  | o, t, x :: l => runF (some ((o.getD fresh).write (t + 1) x.1.toNat x.2)) (t + 1) l
theorem runA_of (n : List UInt8) : ∀ (l : List (Int × ByteArray)) (o : Option AF) (t : Nat), runA n (ofF n o) t l = ofF n (runF o t l) := by
  intro l
  induction l with
  | nil => intro o t; rfl
  | cons x l ih =>
    intro o t
    show runA n (writeA (ofF n o) n (t + 1) x.1.toNat x.2) (t + 1) l = _
    have e : writeA (ofF n o) n (t + 1) x.1.toNat x.2 = ofF n (some ((o.getD fresh).write (t + 1) x.1.toNat x.2)) := by
      unfold writeA
      rw [getA_of, restA_of]
      rfl
    rw [e, ih]
    rfl
/-- the sectors -/
def put1N (L : List ByteArray) (i : Nat) (d : ByteArray) : List ByteArray := if i = L.length then L ++ [d] else L.set i d
def runN : List ByteArray → List (Int × ByteArray) → List ByteArray
  | L, [] => L
  | L, x :: l => runN (put1N L x.1.toNat x.2) l
theorem runN_app (l k : List (Int × ByteArray)) : ∀ L, runN L (l ++ k) = runN (runN L l) k := by
  induction l with
  | nil => intro L; rfl
  | cons x l ih => intro L; exact ih _
theorem runF_now : ∀ (l : List (Int × ByteArray)) (o : Option AF) (t : Nat), nowF (runF o t l) = runN (nowF o) l := by
  intro l
  induction l with
  | nil => intro o t; rfl
  | cons x l ih => intro o t; exact ih _ _
theorem runF_rest : ∀ (l : List (Int × ByteArray)) (o : Option AF) (t : Nat), ((runF o t l).getD fresh).safe = (o.getD fresh).safe ∧ ((runF o t l).getD fresh).made = (o.getD fresh).made ∧ (∀ y ∈ ((runF o t l).getD fresh).ws, y ∈ (o.getD fresh).ws ∨ ∃ x ∈ l, y.2 = (x.1.toNat, x.2)) ∧ (l ≠ [] → runF o t l ≠ none) := by
  intro l
  induction l with
  | nil => intro o t; exact ⟨rfl, rfl, fun y hy => .inl hy, fun h => absurd rfl h⟩
  | cons x l ih =>
    intro o t
    obtain ⟨h1, h2, h3, h4⟩ := ih (some ((o.getD fresh).write (t + 1) x.1.toNat x.2)) (t + 1)
    refine ⟨h1, h2, fun y hy => ?_, fun _ => ?_⟩
    · rcases h3 y hy with h | ⟨z, hz, e⟩
      · have h' : y ∈ (o.getD fresh).ws ++ [(t + 1, x.1.toNat, x.2)] := h
        rcases List.mem_append.1 h' with h | h
        · exact .inl h
        · rw [List.mem_singleton.1 h]
          exact .inr ⟨x, List.mem_cons_self .., rfl⟩
      · exact .inr ⟨z, List.mem_cons_of_mem _ hz, e⟩
    · show runF (some _) (t + 1) l ≠ none
      cases l with
      | nil => intro e; cases e
      | cons y l => exact h4 (by simp)
theorem put1_len {L : List ByteArray} {i : Nat} (d : ByteArray) (h : i ≤ L.length) : (put1N L i d).length = max L.length (i + 1) := by
  unfold put1N
  split
  · simp; omega
  · simp; omega
theorem put1_vw {L : List ByteArray} {i : Nat} (d : ByteArray) (h : i ≤ L.length) (j : Nat) : vw (put1N L i d) j = if j = i then d else vw L j := by
  unfold put1N vw
  rw [List.getD_eq_getElem?_getD, List.getD_eq_getElem?_getD]
  by_cases e : i = L.length
  · subst e
    rw [if_pos rfl]
    by_cases e2 : j = L.length
    · subst e2
      rw [if_pos rfl, List.getElem?_append_right (Nat.le_refl _), Nat.sub_self]
      rfl
    · rw [if_neg e2]
      by_cases e3 : j < L.length
      · rw [List.getElem?_append_left e3]
      · rw [List.getElem?_eq_none (by simp; omega), List.getElem?_eq_none (by omega)]
  · rw [if_neg e]
    by_cases e2 : j = i
    · subst e2
      rw [if_pos rfl, List.getElem?_set_self (by omega)]
      rfl
    · rw [if_neg e2, List.getElem?_set_ne (by omega)]
/-- sectors of zero bytes up to n -/
theorem zeros_run (n : Nat) : ∀ (q : Nat) (L : List ByteArray), n - L.length = q → (runN L (zerosW (zer 256) L.length n)).length = max L.length n ∧ ∀ j, vw (runN L (zerosW (zer 256) L.length n)) j = vw L j := by
  intro q
  induction q with
  | zero =>
    intro L h
    rw [zerosW_done (by omega)]
    exact ⟨by show L.length = _; omega, fun j => rfl⟩
  | succ q ih =>
    intro L h
    rw [zerosW_next (by omega)]
    have hl : (put1N L L.length (zer 256)).length = L.length + 1 := by rw [put1_len _ (Nat.le_refl _)]; omega
    obtain ⟨i1, i2⟩ := ih (put1N L L.length (zer 256)) (by omega)
    rw [hl] at i1 i2
    show (runN (put1N L ((L.length : Int)).toNat (zer 256)) _).length = _ ∧ ∀ j, vw (runN (put1N L ((L.length : Int)).toNat (zer 256)) _) j = _
    rw [Int.toNat_natCast]
    refine ⟨by rw [i1]; omega, fun j => ?_⟩
    rw [i2 j, put1_vw _ (Nat.le_refl _)]
    split
    · next e => rw [e, vw_past (Nat.le_refl _), zer_zeros]
    · rfl
/-- one page put -/
theorem page_run (p : Pg) (L : List ByteArray) : (runN L (pageW L.length p)).length = max (max L.length p.id.toNat) (p.id.toNat + 1) ∧ ∀ j, vw (runN L (pageW L.length p)) j = if j = p.id.toNat then p.sector else vw L j := by
  obtain ⟨h1, h2⟩ := zeros_run p.id.toNat _ L rfl
  unfold pageW
  rw [runN_app]
  show (put1N (runN L _) p.id.toNat p.sector).length = _ ∧ ∀ j, vw (put1N (runN L _) p.id.toNat p.sector) j = _
  refine ⟨by rw [put1_len _ (by omega), h1], fun j => ?_⟩
  rw [put1_vw _ (by omega), h2]
theorem putW_cons (m : Nat) (p : Pg) (l : List Pg) : putW m (p :: l) = pageW m p ++ putW (max (max m p.id.toNat) (p.id.toNat + 1)) l := by
  show zerosW (zer 256) m p.id.toNat ++ (p.id, p.sector) :: putW _ l = _
  unfold pageW
  rw [List.append_assoc]
  rfl
/-- pages put -/
theorem pages_len (M : Nat) : ∀ (l : List Pg) (L : List ByteArray), (∀ p ∈ l, p.id.toNat < M) → L.length ≤ (runN L (putW L.length l)).length ∧ (runN L (putW L.length l)).length ≤ max L.length M ∧ (putW L.length l).length + L.length ≤ l.length + (runN L (putW L.length l)).length := by
  intro l
  induction l with
  | nil => intro L _; exact ⟨Nat.le_refl _, by show L.length ≤ _; omega, by show 0 + L.length ≤ 0 + L.length; omega⟩
  | cons p l ih =>
    intro L h
    obtain ⟨h1, h2⟩ := page_run p L
    have hp := h p (List.mem_cons_self ..)
    obtain ⟨i1, i2, i3⟩ := ih (runN L (pageW L.length p)) (fun q hq => h q (List.mem_cons_of_mem _ hq))
    rw [h1] at i1 i2 i3
    rw [putW_cons, runN_app]
    refine ⟨by omega, by omega, ?_⟩
    rw [List.length_append, pageW_len, List.length_cons]
    omega
theorem pages_ge : ∀ (l : List Pg) (L : List ByteArray), L.length ≤ (runN L (putW L.length l)).length := by
  intro l
  induction l with
  | nil => intro L; exact Nat.le_refl _
  | cons p l ih =>
    intro L
    obtain ⟨h1, h2⟩ := page_run p L
    have i1 := ih (runN L (pageW L.length p))
    rw [h1] at i1
    rw [putW_cons, runN_app]
    omega
theorem pages_other (j : Nat) : ∀ (l : List Pg) (L : List ByteArray), (∀ p ∈ l, p.id.toNat ≠ j) → vw (runN L (putW L.length l)) j = vw L j := by
  intro l
  induction l with
  | nil => intro L _; rfl
  | cons p l ih =>
    intro L h
    obtain ⟨h1, h2⟩ := page_run p L
    rw [putW_cons, runN_app]
    have := ih (runN L (pageW L.length p)) (fun q hq => h q (List.mem_cons_of_mem _ hq))
    rw [h1] at this
    rw [this, h2, if_neg (fun e => h p (List.mem_cons_self ..) e.symm)]
theorem pages_at (p : Pg) (l2 : List Pg) (h : ∀ q ∈ l2, q.id.toNat ≠ p.id.toNat) : ∀ (l1 : List Pg) (L : List ByteArray), vw (runN L (putW L.length (l1 ++ p :: l2))) p.id.toNat = p.sector ∧ p.id.toNat < (runN L (putW L.length (l1 ++ p :: l2))).length := by
  intro l1
  induction l1 with
  | nil =>
    intro L
    obtain ⟨h1, h2⟩ := page_run p L
    show vw (runN L (putW L.length (p :: l2))) _ = _ ∧ _ < (runN L (putW L.length (p :: l2))).length
    rw [putW_cons, runN_app]
    have e := pages_other p.id.toNat l2 (runN L (pageW L.length p)) h
    have e2 := pages_ge l2 (runN L (pageW L.length p))
    rw [h1] at e e2
    exact ⟨by rw [e, h2, if_pos rfl], by omega⟩
  | cons q l1 ih =>
    intro L
    obtain ⟨h1, h2⟩ := page_run q L
    show vw (runN L (putW L.length (q :: (l1 ++ p :: l2)))) _ = _ ∧ _ < (runN L (putW L.length (q :: (l1 ++ p :: l2)))).length
    rw [putW_cons, runN_app]
    have := ih (runN L (pageW L.length q))
    rw [h1] at this
    exact this
/-- what is written stands behind what was there, in zero bytes, or is a page's -/
theorem putW_mem : ∀ (l : List Pg) (m : Nat) (x : Int × ByteArray), x ∈ putW m l → (m ≤ x.1.toNat ∧ x.2 = zer 256) ∨ ∃ p ∈ l, x = (p.id, p.sector) := by
  intro l
  induction l with
  | nil => intro m x h; cases h
  | cons p l ih =>
    intro m x h
    rw [putW_cons] at h
    rcases List.mem_append.1 h with h | h
    · unfold pageW at h
      rcases List.mem_append.1 h with h | h
      · unfold zerosW at h
        obtain ⟨k, _, rfl⟩ := List.mem_map.1 h
        exact .inl ⟨by show m ≤ ((m + k : Nat) : Int).toNat; omega, rfl⟩
      · rw [List.mem_singleton.1 h]
        exact .inr ⟨p, List.mem_cons_self .., rfl⟩
    · rcases ih _ x h with ⟨h1, h2⟩ | ⟨q, hq, e⟩
      · exact .inl ⟨by omega, h2⟩
      · exact .inr ⟨q, List.mem_cons_of_mem _ hq, e⟩
/-- what a crash keeps, of writes that are far, or of zero bytes behind the end -/
theorem keep_view (S : List ByteArray) (M : Nat) : ∀ (l : List (Nat × Nat × ByteArray)) (T : List ByteArray), (∀ x ∈ l, M ≤ x.2.1 ∨ (S.length ≤ x.2.1 ∧ x.2.2 = zeros)) → S.length ≤ T.length → (∀ j, j < M → vw T j = vw S j) →
    S.length ≤ (keepAll T l).length ∧ ∀ j, j < M → vw (keepAll T l) j = vw S j := by
  intro l
  induction l with
  | nil => intro T _ h1 h2; exact ⟨h1, h2⟩
  | cons x l ih =>
    intro T h h1 h2
    show _ ≤ (keepAll (keepOne T x) l).length ∧ ∀ j, j < M → vw (keepAll (keepOne T x) l) j = _
    have hx := h x (List.mem_cons_self ..)
    refine ih (keepOne T x) (fun y hy => h y (List.mem_cons_of_mem _ hy)) ?_ ?_
    · unfold keepOne
      split
      · exact h1
      · rw [setPad_length]; omega
    · intro j hj
      unfold keepOne
      split
      · exact h2 j hj
      · show (setPad T x.2.1 _).getD j zeros = _
        rw [setPad_at]
        split
        · next e =>
          rcases hx with q | ⟨q1, q2⟩
          · omega
          · have e2 : T.getD x.2.1 zeros = zeros := by
              have := h2 j hj
              rw [e, vw_past (L := S) q1] at this
              exact this
            rw [e2, q2, e, vw_past q1]
            exact P0.cut_two zeros x.1
        · exact h2 j hj
/-- a crash, of one file -/
theorem crash_of (n : List UInt8) (o : Option AF) (ks : List Int) : ∃ o2, crashA (ofF n o) ks = ofF n o2 ∧ ∃ l, nowF o2 = keepAll (o.getD fresh).safe l ∧ ∀ x ∈ l, ∃ y ∈ (o.getD fresh).ws, x.2 = y.2 := by
  cases o with
  | none => exact ⟨none, rfl, [], rfl, fun x hx => by cases hx⟩
  | some F =>
    unfold crashA
    obtain ⟨κ, hκ⟩ : ∃ κ, κ = keptA (ofF n (some F)) ks := ⟨_, rfl⟩
    rw [← hκ]
    have hmem : ∀ x ∈ F.ws.map (tripA κ), ∃ y ∈ F.ws, x.2 = y.2 := fun x hx => by
      obtain ⟨y, hy, rfl⟩ := List.mem_map.1 hx
      exact ⟨y, hy, rfl⟩
    by_cases h : (F.made || decide (0 < (keepAll F.safe (F.ws.map (tripA κ))).length)) = true
    · refine ⟨some (F.crash (F.ws.map (tripA κ))), ?_, F.ws.map (tripA κ), rfl, hmem⟩
      show [(n, F)].filterMap (crA κ) = _
      have e : crA κ (n, F) = some (n, F.crash (F.ws.map (tripA κ))) := if_pos h
      rw [List.filterMap_cons, e]
      rfl
    · refine ⟨none, ?_, F.ws.map (tripA κ), ?_, hmem⟩
      · show [(n, F)].filterMap (crA κ) = _
        have e : crA κ (n, F) = none := if_neg h
        rw [List.filterMap_cons, e]
        rfl
      · have h2 : ¬ 0 < (keepAll F.safe (F.ws.map (tripA κ))).length := fun q => h (by rw [decide_eq_true q, Bool.or_true])
        have h3 : (keepAll F.safe (F.ws.map (tripA κ))).length = 0 := by omega
        exact (List.eq_nil_of_length_eq_zero h3).symm
/-- a sector of zero bytes is no page -/
theorem zeros_none : P5.readE zeros ≠ 0 := by
  intro h
  obtain ⟨h1, _⟩ := P6.page_there h
  have h2 : (P5.readP zeros).k = 0 := by
    unfold P5.readP
    split
    · rfl
    · rfl
  have := h1.1
  omega
theorem get_none {x : ByteArray} (h : P5.readE x ≠ 0) (id : Int) : (getOf x 0 id).2 ≠ 0 := by
  have e : getOf x 0 id = (Pg.zero, P5.readE x) := (if_neg (fun q => q rfl)).trans (if_pos h)
  rw [e]
  exact h
/-- what a Get tells of one file -/
theorem getQ_of (n : List UInt8) (o : Option AF) (id : Int) : getQ (ofF n o) n id = getOf (if id < 0 ∨ ((nowF o).length : Int) ≤ id then ⟨#[]⟩ else vw (nowF o) id.toNat) (if o = none then 8 else if id < 0 ∨ ((nowF o).length : Int) ≤ id then 15 else 0) id := by
  unfold getQ
  rw [getA_of, sizeA_of]
  by_cases h : id < 0 ∨ ((nowF o).length : Int) ≤ id
  · rw [if_pos h, if_pos h, if_pos h]
  · rw [if_neg h, if_neg h, if_neg h]
    have e : nowA o id.toNat = vw (nowF o) id.toNat := by
      cases o with
      | none => exfalso; apply h; simp [nowF, fresh]; omega
      | some F =>
        show F.now.getD id.toNat ⟨#[]⟩ = F.now.getD id.toNat zeros
        have hl : id.toNat < F.now.length := by
          have e2 : ((nowF (some F)).length : Int) = (F.now.length : Int) := rfl
          rw [e2] at h
          omega
        rw [List.getD_eq_getElem?_getD, List.getD_eq_getElem?_getD, List.getElem?_eq_getElem hl]
        rfl
    rw [e]
/-- synced, if it is there -/
def syncF (o : Option AF) : Option AF := o.map AF.sync
theorem syncF_now (o : Option AF) : nowF (syncF o) = nowF o := by cases o <;> rfl
theorem syncF_safe (o : Option AF) : ((syncF o).getD fresh).safe = nowF o := by cases o <;> rfl
theorem syncF_ws (o : Option AF) : ((syncF o).getD fresh).ws = [] := by cases o <;> rfl
/-- pages put, synced; others put; a crash -/
structure KeptF (safe : List Pg) (o : Option AF) : Prop where
  have_ : ∀ (l1 l2 : List Pg) (p : Pg), safe = l1 ++ p :: l2 → (∀ q ∈ l2, q.id ≠ p.id) → (∀ (n : List UInt8), getQ (ofF n o) n p.id = (p, 0))
  none_ : ∀ (n : List UInt8) (id : Int), id < 41 → (∀ p ∈ safe, p.id ≠ id) → (getQ (ofF n o) n id).2 ≠ 0
theorem kept_all (n : List UInt8) (safe rest : List Pg) (ks : List Int) (t : Nat) (hs : ∀ p ∈ safe, okPut p ∧ p.id ≤ 40) (hr : ∀ p ∈ rest, okPut p ∧ 41 ≤ p.id) (m : Nat)
    (hm : m = (nowF (syncF (runF none 0 (putW 0 safe)))).length) :
    ∃ o, crashA (ofF n (runF (syncF (runF none 0 (putW 0 safe))) t (putW m rest))) ks = ofF n o ∧ KeptF safe o := by
  obtain ⟨o1, ho1⟩ : ∃ o1, o1 = runF none 0 (putW 0 safe) := ⟨_, rfl⟩
  rw [← ho1] at hm ⊢
  have hn1 : nowF o1 = runN [] (putW 0 safe) := by rw [ho1]; exact runF_now _ _ _
  rw [syncF_now] at hm
  obtain ⟨r1, r2, r3, r4⟩ := runF_rest (putW m rest) (syncF o1) t
  rw [syncF_safe] at r1
  rw [syncF_ws] at r3
  obtain ⟨o2, c1, l, c2, c3⟩ := crash_of n (runF (syncF o1) t (putW m rest)) ks
  refine ⟨o2, c1, ?_⟩
  rw [r1] at c2
  have hl : ∀ x ∈ l, 41 ≤ x.2.1 ∨ ((nowF o1).length ≤ x.2.1 ∧ x.2.2 = zeros) := fun x hx => by
    obtain ⟨y, hy, e⟩ := c3 x hx
    rcases r3 y hy with q | ⟨z, hz, e2⟩
    · cases q
    · rw [e, e2]
      rcases putW_mem rest m z hz with ⟨q1, q2⟩ | ⟨p, hp, rfl⟩
      · exact .inr ⟨by rw [← hm]; exact q1, q2⟩
      · exact .inl (by have := (hr p hp).2; show 41 ≤ p.id.toNat; omega)
  obtain ⟨v1, v2⟩ := keep_view (nowF o1) 41 l (nowF o1) hl (Nat.le_refl _) (fun j _ => rfl)
  rw [← c2] at v1 v2
  constructor
  · intro l1 l2 p e hlast n
    have hp := hs p (by rw [e]; simp)
    have h2 := hp.1.2.2
    have hq : ∀ q ∈ l2, q.id.toNat ≠ p.id.toNat := fun q hq => by
      have h3 := (hs q (by rw [e]; simp [hq])).1.2.2
      have h4 := hlast q hq
      omega
    obtain ⟨a1, a2⟩ := pages_at p l2 hq l1 []
    rw [show ([] : List ByteArray).length = 0 from rfl, ← e, ← hn1] at a1 a2
    have h5 := v2 p.id.toNat (by omega)
    rw [a1] at h5
    have h6 : ¬ (p.id < 0 ∨ ((nowF o2).length : Int) ≤ p.id) := by omega
    have h7 : o2 ≠ none := fun q => by
      subst q
      have : (nowF none).length = 0 := rfl
      omega
    rw [getQ_of, if_neg h6, if_neg h7, if_neg h6, h5]
    obtain ⟨g1, g2⟩ := P5.read_yes hp.1.1
    unfold getOf
    rw [if_neg (by decide), g2, if_neg (by decide), g1, if_neg (fun q => q.elim (fun q => q rfl) hp.1.2.1)]
  · intro n id hid hno
    rw [getQ_of]
    by_cases h7 : o2 = none
    · rw [if_pos h7]
      unfold getOf
      rw [if_pos (by decide)]
      decide
    · rw [if_neg h7]
      by_cases h6 : id < 0 ∨ ((nowF o2).length : Int) ≤ id
      · rw [if_pos h6, if_pos h6]
        unfold getOf
        rw [if_pos (by decide)]
        decide
      · rw [if_neg h6, if_neg h6, v2 id.toNat (by omega)]
        have e : vw (nowF o1) id.toNat = zeros := by
          have := pages_other id.toNat safe [] (fun p hp q => by
            have h3 := (hs p hp).1.2.2
            have h4 := hno p hp
            omega)
          rw [show ([] : List ByteArray).length = 0 from rfl, ← hn1] at this
          exact this
        rw [e]
        exact get_none zeros_none id
end Go.Proofs.YtbkngnjkaledlaaGreat.P8

/-
  Package store: Sync. (Store, part 7.)
-/
namespace Go.Proofs.YtbkngnjkaledlaaGreat.P8
open Go Go.RowKit Go.Lib Go.Maps Go.ChangeMaps Go.MapKept Go.Proofs.YtbkngnjkaledlaaGreat.P3 Go.Proofs.YtbkngnjkaledlaaGreat.P4

set_option maxRecDepth 100000 in
theorem stsync_of {w : World} {b d : Nat} {s : ByteArray} {n : Int} {Q : Int → World → Prop} (h : StAt w b d s n)
    (H : ∀ W, Below w.heap.size w W → Calls Tryz.prog 50 #[.pointer (some ⟨d, 0, none⟩), .string s] W fun e w' => ∃ z : Int, e = .returned (.int .i64 z) ∧ StAt w' b d s n ∧ Q z w') :
    Calls Tryz.prog 14 #[.pointer (some ⟨b, 0, none⟩)] w fun e w' => ∃ z : Int, e = .returned (.int .i64 (if z = 8 then 0 else z)) ∧ StAt w' b d s n ∧ Q z w' := by
  have H1 := Lib.hid (H w (Below.refl _ _))
  have H2 := Lib.hid (H w.drew (Below.refl _ _).drew)
  have HA := Lib.hid h
  have HD := Lib.hid (h.below (Below.refl _ _).drew)
  have HX : Hid (∀ W, StAt W b d s n → W.cell? ⟨b, 0, none⟩ = some (.pointer (some ⟨d, 0, none⟩)) ∧ W.cell? ⟨b, 1, none⟩ = some (.string s)) := fun _ k => ⟨k.c0, k.c1⟩
  clear h H
  go_enter Tryz.func14, Tryz.ntmps14
  go_upto_region 3 with fail
  go_cut [3] from 6 to 14 (fun v W' => ∃ z : Int, v = .int .i64 z ∧ StAt W' b d s n ∧ Q z W')
  case first =>
    go_region_held3 (fun W' => W'.cell? ⟨b, 0, none⟩ = some (.pointer (some ⟨d, 0, none⟩)) ∧ W'.cell? ⟨b, 1, none⟩ = some (.string s)) (first | exact HX.out _ HA.out | exact HX.out _ HD.out | exact HX.out _ H5.out.1)
      ((go_at_call 50; (first | (with_reducible refine (H2.out).mono ?_) | (with_reducible refine (H1.out).mono ?_)); rintro e w5 ⟨z, rfl, hq⟩; have H5 := Lib.hid hq; clear hq))
    all_goals
      go_wp2
      go_meet
      exact ⟨z, rfl, H5.out⟩
  case rest =>
    obtain ⟨z, rfl, hq⟩ := hcut
    have HQ := Lib.hid hq
    clear hq HA HD HX H1 H2
    by_cases hz : z = 8
    · subst hz
      go_wp2
      go_ret
      exact ⟨8, rfl, HQ.out⟩
    · have k2 : (z == 8) = false := beq_eq_false_iff_ne.2 hz
      have HZ : Hid ((if z = 8 then 0 else z) = z) := if_neg hz
      go_wp2
      go_ret
      exact ⟨z, by rw [HZ.out]; rfl, HQ.out⟩
end Go.Proofs.YtbkngnjkaledlaaGreat.P8
