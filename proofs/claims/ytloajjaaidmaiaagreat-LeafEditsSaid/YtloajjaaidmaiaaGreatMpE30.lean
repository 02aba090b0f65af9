/-
  Texts of the proof of SaidEdit9, side by side: V4, U13, U10.
-/
import Derived.Test.YtloajjaaidmaiaaGreatMpE10
import Derived.Test.YtloajjaaidmaiaaGreatMpE29
import Derived.Test.YtloajjaaidmaiaaGreatMpE21
import Derived.Test.YtloajjaaidmaiaaGreatMpE15
/-
  Items: what the reference's ReadItems comes to, and its state on the way.
-/
namespace Go.Proofs.YtloajjaaidmaiaaGreat.P9
open Go Go.RowKit Go.Lib Go.Proofs.YtloajjaaidmaiaaGreat.PK
open Go.Proofs.YtloajjaaidmaiaaGreat.P0 (low str str_size low_length size_app text_ext text_app str_list)
open Go.Proofs.YtloajjaaidmaiaaGreat.PP (RGetAt refNum refTxt refStr refFin Fr rGetNum_any rGetText_any rEnd_any)

/-- one item more is read -/
def stepR (s : ByteArray × Int × List It) : ByteArray × Int × List It :=
  let k := refNum 1 s.1 s.2.1
  let y := refTxt k.2.1 k.2.2
  let z := refTxt y.2.1 y.2.2
  (z.2.1, z.2.2, s.2.2 ++ [⟨y.1, z.1, k.1⟩])
/-- j items are read, or as many as there is no error -/
def runR (B : ByteArray) (e : Int) : Nat → ByteArray × Int × List It
  | 0 => (B, e, [])
  | j + 1 => if (runR B e j).2.1 = 0 then stepR (runR B e j) else runR B e j
theorem runR_next {B : ByteArray} {e : Int} {j : Nat} (h : (runR B e j).2.1 = 0) : runR B e (j + 1) = stepR (runR B e j) := if_pos h
theorem runR_stay {B : ByteArray} {e : Int} {j : Nat} (h : (runR B e j).2.1 ≠ 0) : ∀ {m : Nat}, j ≤ m → runR B e m = runR B e j := by
  intro m hm
  induction m with
  | zero => rw [Nat.le_zero.1 hm]
  | succ m ih =>
    by_cases hj : j = m + 1
    · rw [hj]
    · have e1 := ih (by omega)
      rw [runR, e1, if_neg h]
theorem refStr_left {n : Int} {B : ByteArray} {e : Int} (h : (refStr n B e).2.2 = 0) : e = 0 ∧ (refStr n B e).1.size + (refStr n B e).2.1.size = B.size ∧ (refStr n B e).1.size = n.toNat := by
  unfold refStr at h ⊢
  by_cases he : e = 0
  · rw [if_pos he] at h ⊢
    by_cases hn : n < 0
    · rw [if_pos hn] at h; cases h
    · rw [if_neg hn] at h ⊢
      by_cases hk : n ≤ B.size
      · rw [if_pos hk]
        refine ⟨he, ?_, ?_⟩
        · simp only [ByteArray.size_extract]; omega
        · simp only [ByteArray.size_extract]; omega
      · rw [if_neg hk] at h; cases h
  · rw [if_neg he] at h
    exact absurd h he
theorem refNum_left {n : Nat} {B : ByteArray} {e : Int} (h : (refNum n B e).2.2 = 0) : e = 0 ∧ n + (refNum n B e).2.1.size = B.size := by
  obtain ⟨h1, h2, h3⟩ := refStr_left (n := (n : Int)) h
  have : (refNum n B e).2.1 = (refStr n B e).2.1 := rfl
  rw [this]
  exact ⟨h1, by omega⟩
theorem refTxt_left {B : ByteArray} {e : Int} (h : (refTxt B e).2.2 = 0) : e = 0 ∧ 2 + (refTxt B e).1.size + (refTxt B e).2.1.size = B.size := by
  obtain ⟨h1, h2, h3⟩ := refStr_left (n := (refNum 2 B e).1) h
  obtain ⟨h4, h5⟩ := refNum_left h1
  refine ⟨h4, ?_⟩
  have e1 : (refTxt B e).1 = (refStr (refNum 2 B e).1 (refNum 2 B e).2.1 (refNum 2 B e).2.2).1 := rfl
  have e2 : (refTxt B e).2.1 = (refStr (refNum 2 B e).1 (refNum 2 B e).2.1 (refNum 2 B e).2.2).2.1 := rfl
  rw [e1, e2]
  omega
theorem stepR_left {s : ByteArray × Int × List It} (h : (stepR s).2.1 = 0) : s.2.1 = 0 ∧ sumI (stepR s).2.2 + (stepR s).1.size = sumI s.2.2 + s.1.size := by
  obtain ⟨h1, h2⟩ := refTxt_left (show (refTxt (refTxt (refNum 1 s.1 s.2.1).2.1 (refNum 1 s.1 s.2.1).2.2).2.1 (refTxt (refNum 1 s.1 s.2.1).2.1 (refNum 1 s.1 s.2.1).2.2).2.2).2.2 = 0 from h)
  obtain ⟨h3, h4⟩ := refTxt_left h1
  obtain ⟨h5, h6⟩ := refNum_left h3
  refine ⟨h5, ?_⟩
  unfold stepR
  simp only [sumI_app, sumI_cons, sumI_nil, It.need]
  omega
theorem runR_left {B : ByteArray} {e : Int} : ∀ {j : Nat}, (runR B e j).2.1 = 0 → e = 0 ∧ sumI (runR B e j).2.2 + (runR B e j).1.size = B.size
  | 0, h => ⟨h, by show sumI [] + B.size = B.size; rw [sumI_nil]; omega⟩
  | j + 1, h => by
    by_cases hj : (runR B e j).2.1 = 0
    · rw [runR_next hj] at h ⊢
      obtain ⟨_, h2⟩ := stepR_left h
      obtain ⟨h3, h4⟩ := runR_left hj
      exact ⟨h3, by omega⟩
    · rw [runR_stay hj (Nat.le_succ j)] at h
      exact absurd h hj
/-- what is read in all: what is left, the error, the items -/
def allR (b : ByteArray) : ByteArray × Int × List It := runR (refNum 1 b 0).2.1 (refNum 1 b 0).2.2 (refNum 1 b 0).1.toNat
open Classical in
/-- what ReadItems tells: the items, the error -/
noncomputable def readR (b : ByteArray) : List It × Int :=
  if refFin (allR b).1 (allR b).2.1 = 0 then (if (layR (allR b).2.2).2 = 0 ∧ (layR (allR b).2.2).1 = b then ((allR b).2.2, 0) else ([], 6)) else ([], refFin (allR b).1 (allR b).2.1)
theorem allR_sum {b : ByteArray} (h : refFin (allR b).1 (allR b).2.1 = 0) : (allR b).2.1 = 0 ∧ sumI (allR b).2.2 ≤ b.size := by
  have h1 : (allR b).2.1 = 0 := by
    unfold refFin at h
    by_cases he : (allR b).2.1 = 0
    · exact he
    · rw [if_neg he] at h; exact h
  obtain ⟨h2, h3⟩ := runR_left (j := (refNum 1 b 0).1.toNat) h1
  obtain ⟨_, h5⟩ := refNum_left h2
  refine ⟨h1, ?_⟩
  have e1 : (allR b).2.2 = (runR (refNum 1 b 0).2.1 (refNum 1 b 0).2.2 (refNum 1 b 0).1.toNat).2.2 := rfl
  rw [e1]
  omega

/-- the reader at block G, the row of items read so far -/
structure RdS (w : World) (G : Nat) (B : ByteArray) (e : Int) (v : Value) (l : List It) (wr : World) : Prop where
  g : RGetAt wr G B e
  row : wr.ownsRow (G + 1) 50 3 v l.length (cellsI l).flatten
  lo : w.heap.size ≤ G
  below : Below w.heap.size w wr
theorem RdS.lt {w wr : World} {G : Nat} {B : ByteArray} {e : Int} {v : Value} {l : List It} (h : RdS w G B e v l wr) : G < wr.heap.size := lt_of_block h.g
theorem owns_fr {G base n : Nat} {wr w' : World} {v : Value} {xs : List Value} (h : wr.ownsRow base 50 3 v n xs) (hb : G < base) (hf : Fr G wr w') : w'.ownsRow base 50 3 v n xs := by
  refine ⟨h.1, h.2.imp id fun ⟨g, cap, cur, h1, h2, h3, h4⟩ => ⟨g, cap, cur, h1, h2, hf.keeps g _ _ _ h3 (by decide) (by omega), h4⟩⟩
theorem RdS.call {w wr w' : World} {G : Nat} {B B' : ByteArray} {e e' : Int} {v : Value} {l : List It} (h : RdS w G B e v l wr) (hg : RGetAt w' G B' e') (hf : Fr G wr w') : RdS w G B' e' v l w' :=
  ⟨hg, owns_fr h.row (Nat.lt_succ_self _) hf, h.lo, h.below.trans (hf.below.mono h.lo)⟩
theorem RdS.over {w wr w' : World} {G : Nat} {B : ByteArray} {e : Int} {v : Value} {l : List It} (h : RdS w G B e v l wr) (k : Below wr.heap.size wr w') : RdS w G B e v l w' :=
  ⟨(k.block G h.lt).trans h.g, owns_below h.row k, h.lo, thenBelow h.below k⟩
/-- an item on its way, in block X -/
structure RdX (w : World) (G : Nat) (B : ByteArray) (e : Int) (v : Value) (l : List It) (X : Nat) (c : It) (wr : World) : Prop where
  s : RdS w G B e v l wr
  x : wr.heap[X]? = some (.cells #[.string c.key, .string c.val, .int .i64 c.kind] 50 (0, 0))
  hi : G < X
  row : v.ownBlock ≠ some X
theorem RdS.item {w wr : World} {G : Nat} {B : ByteArray} {e : Int} {v : Value} {l : List It} (h : RdS w G B e v l wr) (c : It) : RdX w G B e v l wr.heap.size c (wr.alloc (.cells #[.string c.key, .string c.val, .int .i64 c.kind] 50)) :=
  ⟨h.over (below_new _ _), new_at wr _ _, h.lt, fun q => by
    have := (h.row.lt _ q).2
    omega⟩
theorem RdX.call {w wr w' : World} {G X : Nat} {B B' : ByteArray} {e e' : Int} {v : Value} {l : List It} {c : It} (h : RdX w G B e v l X c wr) (hg : RGetAt w' G B' e') (hf : Fr G wr w') : RdX w G B' e' v l X c w' :=
  ⟨h.s.call hg hf, hf.keeps X _ _ _ h.x (by decide) (by have := h.hi; omega), h.hi, h.row⟩
theorem RdX.set {w wr : World} {G X : Nat} {B : ByteArray} {e : Int} {v : Value} {l : List It} {c c' : It} (h : RdX w G B e v l X c wr) (j : Nat) (u : Value) (hc : (#[.string c.key, .string c.val, .int .i64 c.kind] : Array Value).setIfInBounds j u = #[.string c'.key, .string c'.val, .int .i64 c'.kind]) : RdX w G B e v l X c' (wr.setCell ⟨X, j, none⟩ u) := by
  have hne : G ≠ X := by have := h.hi; omega
  have hlo : w.heap.size ≤ X := by have := h.hi; have := h.s.lo; omega
  refine ⟨⟨?_, ?_, h.s.lo, ?_⟩, ?_, h.hi, h.row⟩
  · have := h.s.g
    unfold RGetAt at this ⊢
    rw [Below.heap_setCell _ _ _ _ hne]
    exact this
  · exact h.s.row.kept (setCell_grownBy wr X j u) (by
      cases hb : v.ownBlock with
      | none => exact .inl rfl
      | some g => exact .inr (fun q => h.row (hb.trans q)))
  · exact h.s.below.setCell hlo u
  · rw [set_at h.x, hc]
theorem RdX.cells {w wr : World} {G X : Nat} {B : ByteArray} {e : Int} {v : Value} {l : List It} {c : It} (h : RdX w G B e v l X c wr) : wr.cell? ⟨X, 0, none⟩ = some (.string c.key) ∧ wr.cell? ⟨X, 1, none⟩ = some (.string c.val) ∧ wr.cell? ⟨X, 2, none⟩ = some (.int .i64 c.kind) :=
  ⟨cell_at h.x 0, cell_at h.x 1, cell_at h.x 2⟩

end Go.Proofs.YtloajjaaidmaiaaGreat.P9

/-
  Both readers tell the same.
-/
namespace Go.Proofs.YtloajjaaidmaiaaGreat.P9
open Go Go.RowKit Go.Lib Go.Proofs.YtloajjaaidmaiaaGreat.PK
open Go.Proofs.YtloajjaaidmaiaaGreat.PP (getNum getTxt getStr getFin refNum refTxt refStr refFin Rel)

theorem getNum_off {n : Nat} {s : ByteArray} {e : Int} (h : e ≠ 0) : getNum n s e = (0, s, e) := by
  unfold PP.getNum
  rw [if_neg h]
theorem getTxt_off {s : ByteArray} {e : Int} (h : e ≠ 0) : getTxt s e = (⟨#[]⟩, s, e) := by
  unfold PP.getTxt
  rw [getNum_off h]
  unfold PP.getStr
  rw [if_neg h]
theorem rel_run {s B : ByteArray} {bad e : Int} (h : Rel s bad B e) : ∀ j, Rel (runP (s, bad, []) j).1 (runP (s, bad, []) j).2.1 (runR B e j).1 (runR B e j).2.1 ∧ ((runR B e j).2.1 = 0 → (runP (s, bad, []) j).2.2 = (runR B e j).2.2)
  | 0 => ⟨h, fun _ => rfl⟩
  | j + 1 => by
    obtain ⟨h1, h2⟩ := rel_run h j
    by_cases h0 : (runR B e j).2.1 = 0
    · rw [runR_next h0]
      have e2 := h2 h0
      obtain ⟨n1, n2⟩ := h1.num 1
      obtain ⟨t1, t2⟩ := n2.txt
      obtain ⟨z1, z2⟩ := t2.txt
      have e1 : runP (s, bad, []) (j + 1) = stepP (runP (s, bad, []) j) := rfl
      rw [e1]
      unfold stepP stepR
      simp only
      rw [n1, t1, z1, e2]
      exact ⟨z2, fun _ => rfl⟩
    · rw [runR_stay h0 (Nat.le_succ j)]
      refine ⟨?_, fun q => absurd q h0⟩
      have hb : (runP (s, bad, []) j).2.1 ≠ 0 := by rw [← h1.1]; exact h0
      have e1 : runP (s, bad, []) (j + 1) = stepP (runP (s, bad, []) j) := rfl
      rw [e1]
      unfold stepP
      simp only
      rw [getNum_off hb, getTxt_off hb, getTxt_off hb]
      exact h1
theorem read_same (b : ByteArray) : readP b = readR b := by
  have h0 := (Rel.start b).num 1
  obtain ⟨n1, n2⟩ := h0
  obtain ⟨h1, h2⟩ := rel_run n2 (refNum 1 b 0).1.toNat
  have eP : allP b = runP ((getNum 1 b 0).2.1, (getNum 1 b 0).2.2, []) (refNum 1 b 0).1.toNat := by unfold allP; rw [n1]
  have eR : allR b = runR (refNum 1 b 0).2.1 (refNum 1 b 0).2.2 (refNum 1 b 0).1.toNat := rfl
  rw [← eP, ← eR] at h1 h2
  have hf := h1.fin
  unfold readP readR
  rw [← hf]
  by_cases hz : refFin (allR b).1 (allR b).2.1 = 0
  · rw [if_pos hz, if_pos hz, h2 (allR_sum hz).1]
  · rw [if_neg hz, if_neg hz]

end Go.Proofs.YtloajjaaidmaiaaGreat.P9

/-
  Parts that fit: what is told of them; append as an operation.
-/
namespace Go.Proofs.YtloajjaaidmaiaaGreat.P9
open Go Go.RowKit Go.Lib Go.Proofs.YtloajjaaidmaiaaGreat.PK

section
variable {P : Program} {w : World}
theorem wp_app {o : Oper} {a : Act} {K : Act → World → Prop} {Q : Exit → Act → World → Prop} (s x : Operand) (t : TypeId)
    (ho : o.op = .call { callee := .builtin .append, args := #[s, x], argTypes := #[t, t] })
    (base : Nat) (e : TypeId) (i : TypeInfo) (z : Value) (size bytes : Nat) (ht : P.underlying t = some (.slice e)) (hi : P.info? e = some i) (hz : i.zero = some z)
    (hsize : i.size = size) (hby : i.bytes = bytes) (hzs : z.cells.size = size) (hsz : 0 < size)
    (v : Value) (n : Nat) (xs : List Value) (hs : a.eval s = v) (hown : w.ownsRow base e size v n xs)
    (ad : Option Addr) (m c : Nat) (news : List Value) (hx : a.eval x = .slice ad m c) (hl : news.length = m * size) (hnews : ∀ A, ad = some A → ∀ j u, news[j]? = some u → w.cell? (A.add j) = some u) (hno : ad = none → m = 0 ∧ c = 0) (h1 : ∀ u ∈ news, u.oneCell' = true)
    (h63 : n + m ≤ maxLen) (hbytes : (n + m) * bytes ≤ 140737488355328) (hbase : base ≤ w.heap.size)
    (h : ∀ p q w', w'.ownsRow base e size (.slice p (n + m : Nat) q) (n + m) (xs ++ news) → w.grownBy w' v.ownBlock → ((Value.slice p (n + m : Nat) q).ownBlock = v.ownBlock ∨ (Value.slice p (n + m : Nat) q).ownBlock = some w.heap.size) → K (a.put o.dst (.slice p (n + m : Nat) q)) w') :
    Oper.wp P o a w K Q := by
  obtain ⟨p, q, w', hr, h2, h3, h4⟩ := run_app (P := P) w base t o.type e i z size bytes ht hi hz hsize hby hzs hsz v n xs hown ad m c news hl hnews hno h1 h63 hbytes hbase
  unfold Oper.wp execOp
  simp only [ho, resolve, invoke, builtin, Sem.run_bind, Sem.run_pure, Result.andThen_ok, List.map_toArray, List.map_cons, List.map_nil, hs, hx, hr]
  exact h p q w' h2 h3 h4
end

theorem Fills.room {l : List It} (hr : ∀ x ∈ l, x.ok = true) {n : Nat} (h : Fills l n) : 1 + sumI (l.take n) ≤ 232 := by
  obtain ⟨h1, h2, h3, _⟩ := h
  by_cases e : n = 1
  · subst e
    obtain ⟨x, hx⟩ : ∃ x, l[0]? = some x := ⟨_, List.getElem?_eq_getElem (by omega)⟩
    have h9 := sumI_take hx
    have h8 := ok_need (hr x (List.mem_of_getElem? hx))
    have h7 : sumI (l.take 0) = 0 := rfl
    rw [show (0 + 1) = 1 from rfl] at h9
    omega
  · exact h3 n (by omega) (Nat.le_refl _)
theorem Cuts.each {l : List It} {P : List (List It)} (h : Cuts l P) : (∀ x ∈ l, x.ok = true) → ∀ p ∈ P, 0 < p.length ∧ 1 + sumI p ≤ 232 := by
  induction h with
  | nil => exact fun _ p hp => (List.not_mem_nil hp).elim
  | cons f _ ih =>
    intro hr p hp
    rcases List.mem_cons.1 hp with rfl | hp
    · exact ⟨by have := f.1; have := f.2.1; rw [List.length_take]; omega, f.room hr⟩
    · exact ih (fun x hx => hr x (List.mem_of_mem_drop hx)) p hp
theorem Cuts.ne {l : List It} {P : List (List It)} (h : Cuts l P) : ∀ p ∈ P, 0 < p.length := by
  induction h with
  | nil => exact fun p hp => (List.not_mem_nil hp).elim
  | cons f _ ih =>
    intro p hp
    rcases List.mem_cons.1 hp with rfl | hp
    · have := f.1; have := f.2.1; rw [List.length_take]; omega
    · exact ih p hp
theorem Cuts.head {l : List It} {q : List It} {P : List (List It)} (h : Cuts l (q :: P)) : q[0]? = l[0]? := by
  cases h with
  | cons f _ => rw [List.getElem?_take_of_lt f.1]
theorem Cuts.next {l : List It} {P : List (List It)} (h : Cuts l P) : ∀ {i : Nat} {p q : List It} {x : It}, P[i]? = some p → P[i + 1]? = some q → q[0]? = some x → 232 < 1 + (sumI p + x.need) := by
  induction h with
  | nil => intro i p q x h; simp at h
  | @cons l n P f k ih =>
    intro i p q x hp hq hx
    match i with
    | 0 =>
      obtain rfl : l.take n = p := by simpa using hp
      cases P with
      | nil => simp at hq
      | cons q' P =>
        obtain rfl : q' = q := by simpa using hq
        rw [k.head, List.getElem?_drop, Nat.add_zero] at hx
        have hlt := (List.getElem?_eq_some_iff.1 hx).1
        have h9 := f.2.2.2 hlt
        rw [sumI_take hx] at h9
        exact h9
    | i + 1 => exact ih (by simpa using hp) (by simpa using hq) hx
theorem sumI_flat : ∀ (P : List (List It)), sumI P.flatten = (P.map sumI).sum
  | [] => rfl
  | p :: P => by rw [List.flatten_cons, sumI_app, sumI_flat P, List.map_cons, List.sum_cons]
theorem sumI_mem {l : List It} {x : It} (h : x ∈ l) : x.need ≤ sumI l := by
  obtain ⟨i, hi, rfl⟩ := List.mem_iff_getElem.1 h
  exact need_le (List.getElem?_eq_getElem hi)
theorem Cuts.two {l p q : List It} {P : List (List It)} (h : Cuts l (p :: q :: P)) : 232 ≤ sumI p + sumI q := by
  have hq := h.ne q (by simp)
  obtain ⟨x, hx⟩ : ∃ x, q[0]? = some x := ⟨_, List.getElem?_eq_getElem hq⟩
  have h1 := h.next (i := 0) rfl rfl hx
  have h2 := need_le hx
  omega
theorem cuts_cons {l p : List It} {P : List (List It)} (h : Cuts l (p :: P)) : ∃ n, Fills l n ∧ p = l.take n ∧ Cuts (l.drop n) P := by
  cases h with
  | cons f k => exact ⟨_, f, rfl, k⟩
/-- how many parts -/
theorem cuts_len : ∀ (P : List (List It)) (l : List It), Cuts l P → 116 * P.length ≤ sumI l + 116
  | [], _, _ => by simp
  | [_], _, _ => by simp
  | p :: q :: P, l, h => by
    have h1 := h.two
    have hf := h.flat
    obtain ⟨n, f, rfl, k⟩ := cuts_cons h
    obtain ⟨m, g, rfl, k2⟩ := cuts_cons k
    have ih := cuts_len P _ k2
    have e1 := congrArg sumI (List.take_append_drop n l)
    have e2 := congrArg sumI (List.take_append_drop m (l.drop n))
    rw [sumI_app] at e1 e2
    rw [List.length_cons, List.length_cons]
    omega
/-- one part, just where all fit into a page -/
theorem Cuts.single {l : List It} {P : List (List It)} (h : Cuts l P) (hr : ∀ x ∈ l, x.ok = true) : P.length ≤ 1 ↔ (1 + sumI l ≤ 232 ∨ l.length = 0) := by
  constructor
  · intro hl
    match P, hl with
    | [], _ =>
      right
      have := h.flat
      rw [← this]
      rfl
    | [p], _ =>
      left
      have := h.flat
      rw [List.flatten_cons, List.flatten_nil, List.append_nil] at this
      rw [← this]
      exact (h.each hr p (by simp)).2
  · intro hs
    match P with
    | [] => simp
    | [p] => simp
    | p :: q :: P =>
      exfalso
      have h1 := h.two
      have h2 := h.flat
      have h3 : sumI l = sumI p + (sumI q + sumI P.flatten) := by rw [← h2, List.flatten_cons, List.flatten_cons, sumI_app, sumI_app]
      rcases hs with hs | hs
      · omega
      · have h4 := h.ne p (by simp)
        rw [← h2] at hs
        simp only [List.flatten_cons, List.length_append] at hs
        omega
theorem Cuts.part_le {l p : List It} {P : List (List It)} (h : Cuts l P) (hp : p ∈ P) : p.length ≤ l.length := by
  rw [← h.flat]
  exact (List.sublist_flatten_of_mem hp).length_le
theorem Cuts.part_right {l p : List It} {P : List (List It)} (h : Cuts l P) (hr : RightI l) (hp : p ∈ P) : RightI p := by
  rw [← h.flat] at hr
  exact hr.sub (List.sublist_flatten_of_mem hp)
theorem Cuts.count {l : List It} {P : List (List It)} (h : Cuts l P) : P.length ≤ l.length := by
  induction h with
  | nil => exact Nat.le_refl _
  | cons f _ ih =>
    rw [List.length_cons]
    rw [List.length_drop] at ih
    have := f.1
    have := f.2.1
    omega

end Go.Proofs.YtloajjaaidmaiaaGreat.P9
