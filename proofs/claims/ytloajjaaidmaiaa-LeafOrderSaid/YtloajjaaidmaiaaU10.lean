/-
  Parts that fit: what is told of them; append as an operation.
-/
import Derived.Test.YtloajjaaidmaiaaU9
namespace Go.Proofs.Ytloajjaaidmaiaa.P9
open Go Go.RowKit Go.Lib Go.Proofs.Ytloajjaaidmaiaa.PK

section
variable {P : Program} {w : World}
theorem wp_app {o : Oper} {a : Act} {K : Act → World → Prop} {Q : Exit → Act → World → Prop} (s x : Operand) (t : TypeId)
    (ho : o.op = .call { callee := .builtin .append, args := #[s, x], argTypes := #[t, t] })
    (base : Nat) (e : TypeId) (i : TypeInfo) (z : Value) (size bytes : Nat) (ht : P.underlying t = some (.slice e)) (hi : P.info? e = some i) (hz : i.zero = some z)
    (hsize : i.size = size) (hby : i.bytes = bytes) (hzs : z.cells.size = size) (hsz : 0 < size)
    (v : Value) (n : Nat) (xs : List Value) (hs : a.eval s = v) (hown : w.ownsRow base e size v n xs)
    (ad : Option Addr) (m c : Nat) (news : List Value) (hx : a.eval x = .slice ad m c) (hl : news.length = m * size) (hnews : ∀ A, ad = some A → ∀ j u, news[j]? = some u → w.cell? (A.add j) = some u) (hno : ad = none → m = 0 ∧ c = 0) (h1 : ∀ u ∈ news, u.oneCell' = true)
    (h63 : n + m ≤ maxLen) (hbytes : (n + m) * bytes ≤ 140737488355328) (hbase : base ≤ w.heap.size)
    (h : ∀ p q w', w'.ownsRow base e size (.slice p (n + m : Nat) q) (n + m) (xs ++ news) → w.grownBy w' v.ownBlock → ((Value.slice p (n + m : Nat) q).ownBlock = v.ownBlock ∨ (Value.slice p (n + m : Nat) q).ownBlock = some w.heap.size) → K (a.put o.dst (.slice p (n + m : Nat) q)) w') :
    Oper.wp P o a w K Q := by
  obtain ⟨p, q, w', hr, h2, h3, h4⟩ := run_app (P := P) w base t o.type e i z size bytes ht hi hz hsize hby hzs hsz v n xs hown ad m c news hl hnews hno h1 h63 hbytes hbase
  unfold Oper.wp execOp
  simp only [ho, resolve, invoke, builtin, Sem.run_bind, Sem.run_pure, Result.andThen_ok, List.map_toArray, List.map_cons, List.map_nil, hs, hx, hr]
  exact h p q w' h2 h3 h4
end

theorem Fills.room {l : List It} (hr : ∀ x ∈ l, x.ok = true) {n : Nat} (h : Fills l n) : 1 + sumI (l.take n) ≤ 232 := by
  obtain ⟨h1, h2, h3, _⟩ := h
  by_cases e : n = 1
  · subst e
    obtain ⟨x, hx⟩ : ∃ x, l[0]? = some x := ⟨_, List.getElem?_eq_getElem (by omega)⟩
    have h9 := sumI_take hx
    have h8 := ok_need (hr x (List.mem_of_getElem? hx))
    have h7 : sumI (l.take 0) = 0 := rfl
    rw [show (0 + 1) = 1 from rfl] at h9
    omega
  · exact h3 n (by omega) (Nat.le_refl _)
theorem Cuts.each {l : List It} {P : List (List It)} (h : Cuts l P) : (∀ x ∈ l, x.ok = true) → ∀ p ∈ P, 0 < p.length ∧ 1 + sumI p ≤ 232 := by
  induction h with
  | nil => exact fun _ p hp => (List.not_mem_nil hp).elim
  | cons f _ ih =>
    intro hr p hp
    rcases List.mem_cons.1 hp with rfl | hp
    · exact ⟨by have := f.1; have := f.2.1; rw [List.length_take]; omega, f.room hr⟩
    · exact ih (fun x hx => hr x (List.mem_of_mem_drop hx)) p hp
theorem Cuts.ne {l : List It} {P : List (List It)} (h : Cuts l P) : ∀ p ∈ P, 0 < p.length := by
  induction h with
  | nil => exact fun p hp => (List.not_mem_nil hp).elim
  | cons f _ ih =>
    intro p hp
    rcases List.mem_cons.1 hp with rfl | hp
    · have := f.1; have := f.2.1; rw [List.length_take]; omega
    · exact ih p hp
theorem Cuts.head {l : List It} {q : List It} {P : List (List It)} (h : Cuts l (q :: P)) : q[0]? = l[0]? := by
  cases h with
  | cons f _ => rw [List.getElem?_take_of_lt f.1]
theorem Cuts.next {l : List It} {P : List (List It)} (h : Cuts l P) : ∀ {i : Nat} {p q : List It} {x : It}, P[i]? = some p → P[i + 1]? = some q → q[0]? = some x → 232 < 1 + (sumI p + x.need) := by
  induction h with
  | nil => intro i p q x h; simp at h
  | @cons l n P f k ih =>
    intro i p q x hp hq hx
    match i with
    | 0 =>
      obtain rfl : l.take n = p := by simpa using hp
      cases P with
      | nil => simp at hq
      | cons q' P =>
        obtain rfl : q' = q := by simpa using hq
        rw [k.head, List.getElem?_drop, Nat.add_zero] at hx
        have hlt := (List.getElem?_eq_some_iff.1 hx).1
        have h9 := f.2.2.2 hlt
        rw [sumI_take hx] at h9
        exact h9
    | i + 1 => exact ih (by simpa using hp) (by simpa using hq) hx
theorem sumI_flat : ∀ (P : List (List It)), sumI P.flatten = (P.map sumI).sum
  | [] => rfl
  | p :: P => by rw [List.flatten_cons, sumI_app, sumI_flat P, List.map_cons, List.sum_cons]
theorem sumI_mem {l : List It} {x : It} (h : x ∈ l) : x.need ≤ sumI l := by
  obtain ⟨i, hi, rfl⟩ := List.mem_iff_getElem.1 h
  exact need_le (List.getElem?_eq_getElem hi)
theorem Cuts.two {l p q : List It} {P : List (List It)} (h : Cuts l (p :: q :: P)) : 232 ≤ sumI p + sumI q := by
  have hq := h.ne q (by simp)
  obtain ⟨x, hx⟩ : ∃ x, q[0]? = some x := ⟨_, List.getElem?_eq_getElem hq⟩
  have h1 := h.next (i := 0) rfl rfl hx
  have h2 := need_le hx
  omega
theorem cuts_cons {l p : List It} {P : List (List It)} (h : Cuts l (p :: P)) : ∃ n, Fills l n ∧ p = l.take n ∧ Cuts (l.drop n) P := by
  cases h with
  | cons f k => exact ⟨_, f, rfl, k⟩
/-- how many parts -/
theorem cuts_len : ∀ (P : List (List It)) (l : List It), Cuts l P → 116 * P.length ≤ sumI l + 116
  | [], _, _ => by simp
  | [_], _, _ => by simp
  | p :: q :: P, l, h => by
    have h1 := h.two
    have hf := h.flat
    obtain ⟨n, f, rfl, k⟩ := cuts_cons h
    obtain ⟨m, g, rfl, k2⟩ := cuts_cons k
    have ih := cuts_len P _ k2
    have e1 := congrArg sumI (List.take_append_drop n l)
    have e2 := congrArg sumI (List.take_append_drop m (l.drop n))
    rw [sumI_app] at e1 e2
    rw [List.length_cons, List.length_cons]
    omega
/-- one part, just where all fit into a page -/
theorem Cuts.single {l : List It} {P : List (List It)} (h : Cuts l P) (hr : ∀ x ∈ l, x.ok = true) : P.length ≤ 1 ↔ (1 + sumI l ≤ 232 ∨ l.length = 0) := by
  constructor
  · intro hl
    match P, hl with
    | [], _ =>
      right
      have := h.flat
      rw [← this]
      rfl
    | [p], _ =>
      left
      have := h.flat
      rw [List.flatten_cons, List.flatten_nil, List.append_nil] at this
      rw [← this]
      exact (h.each hr p (by simp)).2
  · intro hs
    match P with
    | [] => simp
    | [p] => simp
    | p :: q :: P =>
      exfalso
      have h1 := h.two
      have h2 := h.flat
      have h3 : sumI l = sumI p + (sumI q + sumI P.flatten) := by rw [← h2, List.flatten_cons, List.flatten_cons, sumI_app, sumI_app]
      rcases hs with hs | hs
      · omega
      · have h4 := h.ne p (by simp)
        rw [← h2] at hs
        simp only [List.flatten_cons, List.length_append] at hs
        omega
theorem Cuts.part_le {l p : List It} {P : List (List It)} (h : Cuts l P) (hp : p ∈ P) : p.length ≤ l.length := by
  rw [← h.flat]
  exact (List.sublist_flatten_of_mem hp).length_le
theorem Cuts.part_right {l p : List It} {P : List (List It)} (h : Cuts l P) (hr : RightI l) (hp : p ∈ P) : RightI p := by
  rw [← h.flat] at hr
  exact hr.sub (List.sublist_flatten_of_mem hp)
theorem Cuts.count {l : List It} {P : List (List It)} (h : Cuts l P) : P.length ≤ l.length := by
  induction h with
  | nil => exact Nat.le_refl _
  | cons f _ ih =>
    rw [List.length_cons]
    rw [List.length_drop] at ih
    have := f.1
    have := f.2.1
    omega

end Go.Proofs.Ytloajjaaidmaiaa.P9
