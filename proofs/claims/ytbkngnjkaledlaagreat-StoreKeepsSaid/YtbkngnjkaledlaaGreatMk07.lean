/-
  Texts of the proof of SaidKeeps8, side by side: Dk7.
-/
import Derived.Test.YtbkngnjkaledlaaGreatMk06
/-
  Package disk: Cut on a file. (Disk, part 7.)
-/
namespace Go.Proofs.YtbkngnjkaledlaaGreat.P4
open Go Go.RowKit Go.Lib Go.Proofs.YtbkngnjkaledlaaGreat.P3

theorem lst_mem : ∀ {l : List Wr} {p : Option Nat} {b : Nat}, lst p l = some b → p = some b ∨ ∃ l' x, l = l' ++ [x] ∧ x.b = b := by
  intro l p b h
  by_cases hn : l = []
  · subst hn; exact .inl h
  · obtain ⟨l', x, e, h2⟩ := lst_some (p := p) hn
    rw [h2] at h
    exact .inr ⟨l', x, e, by simpa using h⟩
/-- the last one of a sector, where there is one -/
theorem lastAt_some {ws : List Wr} {i b : Nat} (h : lastAt ws i = some b) : ∃ l1 x l2, ws = l1 ++ x :: l2 ∧ x.b = b ∧ x.pos = i ∧ ∀ y ∈ l2, y.pos ≠ i := by
  unfold lastAt at h
  rcases lst_mem h with h | ⟨l', x, e, rfl⟩
  · cases h
  · obtain ⟨l1, l2, e0, e1, e2⟩ := List.filter_eq_append_iff.1 e
    obtain ⟨m1, m2, e3, e4, e5, e6⟩ := List.filter_eq_cons_iff.1 e2
    refine ⟨l1 ++ m1, x, m2, by rw [e0, e3]; simp, rfl, by simpa using e5, fun y hy => ?_⟩
    have := List.filter_eq_nil_iff.1 e6 y hy
    simpa using this
theorem lastAt_nothing {ws : List Wr} {i : Nat} (h : lastAt ws i = none) : ∀ x ∈ ws, x.pos ≠ i := by
  intro x hx e
  unfold lastAt at h
  have hm : x ∈ ws.filter (·.pos == i) := List.mem_filter.2 ⟨hx, by simpa using e⟩
  obtain ⟨l', z, e1, e2⟩ := lst_some (p := none) (List.ne_nil_of_mem hm)
  rw [h] at e2
  cases e2
theorem lastAt_drop {l1 l2 : List Wr} {x : Wr} (hl : ∀ y ∈ l2, y.pos ≠ x.pos) : lastAt (l1 ++ l2) x.pos = lastAt l1 x.pos := by
  unfold lastAt
  have h2 : l2.filter (·.pos == x.pos) = [] := List.filter_eq_nil_iff.2 (fun y hy => by simpa using hl y hy)
  rw [List.filter_append, h2, List.append_nil]
theorem lastAt_other {l1 l2 : List Wr} {x : Wr} {i : Nat} (hi : x.pos ≠ i) : lastAt (l1 ++ x :: l2) i = lastAt (l1 ++ l2) i := by
  unfold lastAt
  rw [List.filter_append, List.filter_append, List.filter_cons_of_neg (by simpa using hi)]
/-- the last one of its sector goes: the others know what they knew -/
theorem UnderOk.drop {l1 l2 : List Wr} {x : Wr} (h : UnderOk (l1 ++ x :: l2)) (hl : ∀ y ∈ l2, y.pos ≠ x.pos) : UnderOk (l1 ++ l2) := by
  intro l y r e
  rcases List.append_eq_append_iff.1 e with ⟨a, e1, e2⟩ | ⟨a, e1, e2⟩
  · -- l = l1 ++ a, l2 = a ++ y :: r
    have e3 : l1 ++ x :: l2 = (l1 ++ x :: a) ++ y :: r := by rw [e2]; simp
    have := h _ _ _ e3
    rw [this, e1]
    exact lastAt_other (fun e4 => hl y (by rw [e2]; simp) e4.symm)
  · cases a with
    | nil =>
      rw [List.append_nil] at e1
      subst e1
      have e3 : l1 ++ x :: l2 = (l1 ++ [x]) ++ y :: r := by rw [List.append_assoc]; congr 1; simpa using e2.symm
      have := h _ _ _ e3
      rw [this, lastAt_snoc, if_neg]
      exact fun e4 => hl y (by simp at e2; rw [← e2]; simp) e4.symm
    | cons z a =>
      simp only [List.cons_append, List.cons.injEq] at e2
      obtain ⟨rfl, rfl⟩ := e2
      exact h l y (a ++ x :: l2) (by rw [e1]; simp)

/-- a file some of whose writes went; all else as it was -/
structure CutSt (w : World) (F : Fl) (ws : List Wr) (wr : World) : Prop where
  blk : wr.heap[F.b]? = some (.cells ({ F with ws := ws } : Fl).cells 148 (0, 0))
  seg : Seg wr none ws none
  row : wr.ownsRow 0 143 3 F.sl F.secs.length (secsCells F.secs)
  fr : Fr (fun k => k = F.b ∨ ∃ x ∈ F.ws, x.b = k) w wr
  nodup : (ws.map (·.b)).Nodup
  under : UnderOk ws
  sub : ∀ x ∈ ws, x ∈ F.ws

theorem CutSt.below {w wr w' : World} {F : Fl} {ws : List Wr} (h : CutSt w F ws wr) (hb : Below wr.heap.size wr w') : CutSt w F ws w' :=
  ⟨old_below h.blk hb, seg_keep h.seg (fun x hx => hb.block _ (seg_lt h.seg x hx)), owns_keep h.row (fun g hg => hb.block g (h.row.lt g hg).2), h.fr.trans (.of hb), h.nodup, h.under, h.sub⟩

theorem CutSt.drop {w wr : World} {F : Fl} (hw : FileAt w F) {l1 l2 : List Wr} {x : Wr} (h : CutSt w F (l1 ++ x :: l2) wr) (hl : ∀ y ∈ l2, y.pos ≠ x.pos) (hfew : (l1 ++ x :: l2).length ≤ 100000) :
    Calls Tryz.prog 134 #[.pointer (some ⟨F.b, 3, none⟩), .pointer (some ⟨x.b, 0, none⟩)] wr fun e w' => e = .returned (.tuple #[]) ∧ CutSt w F (l1 ++ l2) w' ∧ w'.heap[x.b]? = wr.heap[x.b]? := by
  obtain ⟨hne, hnd⟩ := map_split h.nodup
  refine (drop_any wr (n := (l1 ++ x :: l2).length) h.blk rfl rfl rfl h.seg h.nodup (by simp; omega) hfew).mono ?_
  rintro e w' ⟨rfl, hD⟩
  have hxb : x.b ≠ F.b := by
    obtain ⟨_, _, hx⟩ := seg_mem h.seg x (by simp)
    exact block_ne hx h.blk (by decide)
  refine ⟨rfl, ⟨?_, hD.seg, ?_, ?_, hnd, h.under.drop hl, fun y hy => h.sub y (by rcases List.mem_append.1 hy with hy | hy <;> simp [hy])⟩, ?_⟩
  · rw [hD.blk]
    have : ((l1 ++ x :: l2).length : Int) - 1 = ((l1 ++ l2).length : Int) := by simp; omega
    rw [this]
    rfl
  · refine owns_fr h.row hD.fr (fun g hg hk => ?_)
    rcases hk with rfl | ⟨y, hy, rfl⟩
    · exact hw.ne_row.1 F.b hg rfl
    · exact hw.ne_row.2 y.b hg y (h.sub y (by rcases List.mem_append.1 hy with hy | hy <;> simp [hy])) rfl
  · refine h.fr.trans (hD.fr.mono fun k _ hk => ?_)
    rcases hk with rfl | ⟨y, hy, rfl⟩
    · exact .inl rfl
    · exact .inr ⟨y, h.sub y (by rcases List.mem_append.1 hy with hy | hy <;> simp [hy]), rfl⟩
  · obtain ⟨_, _, hx⟩ := seg_mem h.seg x (by simp)
    exact hD.fr.block x.b (lt_of_block hx) (fun hk => by
      rcases hk with e | ⟨y, hy, e⟩
      · exact hxb e
      · exact hne y hy e)

/-- those that are left when the sectors from n to n + i went -/
def outOf (n i : Nat) (ws : List Wr) : List Wr := ws.filter (fun x => decide (x.pos < n ∨ n + i ≤ x.pos))
theorem out_zero (n : Nat) (ws : List Wr) : outOf n 0 ws = ws := List.filter_eq_self.2 (fun x _ => by simp; omega)
theorem out_step (n i : Nat) (ws : List Wr) : (outOf n i ws).filter (fun x => x.pos != n + i) = outOf n (i + 1) ws := by
  unfold outOf
  rw [List.filter_filter]
  apply List.filter_congr
  intro x _
  rw [Bool.eq_iff_iff]
  simp only [Bool.and_eq_true, bne_iff_ne, ne_eq, decide_eq_true_eq]
  omega
theorem out_all (n m : Nat) (ws : List Wr) (h : ∀ x ∈ ws, x.pos < n + m) : outOf n m ws = ws.filter (fun x => decide (x.pos < n)) := by
  unfold outOf
  apply List.filter_congr
  intro x hx
  have := h x hx
  simp
  omega
theorem out_last (n i : Nat) (ws : List Wr) : lastAt (outOf n i ws) (n + i) = lastAt ws (n + i) :=
  lastAt_filter (fun k => decide (k < n ∨ n + i ≤ k)) ws (n + i) (by simp)
theorem filter_stays {ws vs : List Wr} {i : Nat} (h : vs.filter (fun x => x.pos != i) = ws.filter (fun x => x.pos != i)) (hn : lastAt vs i = none) : vs = ws.filter (fun x => x.pos != i) := by
  rw [← h]
  exact (List.filter_eq_self.2 (fun x hx => by simpa using lastAt_nothing hn x hx)).symm

end Go.Proofs.YtbkngnjkaledlaaGreat.P4
