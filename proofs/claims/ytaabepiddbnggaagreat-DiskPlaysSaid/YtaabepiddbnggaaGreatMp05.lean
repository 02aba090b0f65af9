/-
  Texts of the proof of SaidPlays, side by side: Dk6, Dk7.
-/
import Derived.Test.YtaabepiddbnggaaGreatMp04
import Derived.Deep.RegionLaw
/-
  Package disk: slices.Delete at sectors: the end of a row is cut off. (Disk, part 6.)
-/
namespace Go.Proofs.YtaabepiddbnggaaGreat.P4
open Go Go.RowKit Go.Lib Go.Proofs.YtaabepiddbnggaaGreat.P3

/-- 'clear(s)' of structs -/
theorem run_clear_struct {P : Program} (w : World) (t e ty : TypeId) (z : Value) (zs : List Value) (ht : P.underlying t = some (.slice e)) (hv : ∀ w, (zeroValue e).run P w = .ok z w) (b o n c : Nat) (hn : 0 < n) (hz : (Builtin.zeroCells z.cells n).toList = zs) (h1 : ∀ v ∈ zs, v.oneCell' = true)
    (hc : ∀ j, j < zs.length → (w.cell? ⟨b, o + j, none⟩).isSome = true) (hf : ∀ j, j < zs.length → w.frozen? ⟨b, o + j, none⟩ = false) :
    (Builtin.clear_ #[t] ty #[.slice (some ⟨b, o, none⟩) n c]).run P w = .ok (.tuple #[]) (w.setCells b o zs) := by
  have hst := run_storeCells_cells (P := P) b o zs 0 w (by simpa using hc) (by simpa using hf) h1
  simp only [Nat.add_zero] at hst
  obtain ⟨m, rfl⟩ : ∃ m, n = m + 1 := ⟨n - 1, by omega⟩
  simp [Builtin.clear_, run_underlying ht, hv, hz, hst]

theorem delete_same (w : World) (a : Option Addr) (n cap : Nat) (hc : n ≤ cap) : Calls Tryz.prog 136 #[.slice a n cap, .int .i64 n, .int .i64 n] w fun e w' => e = .returned (.slice a n cap) ∧ w = w' := by
  go_enter Tryz.func136, Tryz.ntmps136
  go_wp2
  all_goals (go_ret; exact ⟨rfl, rfl⟩)

set_option maxRecDepth 100000 in
set_option maxHeartbeats 1000000 in
theorem delete_end (w : World) (g n N cap : Nat) (zs : List Value) (hn : n < N) (hN : N ≤ cap) (hcap : cap ≤ maxLen) (hz : (Builtin.zeroCells (Value.agg #[.string ⟨#[]⟩, .string ⟨#[]⟩, .pointer none]).cells (N - n)).toList = zs) (h1 : ∀ v ∈ zs, v.oneCell' = true)
    (hc : ∀ j, j < zs.length → (w.cell? ⟨g, n * 3 + j, none⟩).isSome = true) (hf : ∀ j, j < zs.length → w.frozen? ⟨g, n * 3 + j, none⟩ = false) :
    Calls Tryz.prog 136 #[.slice (some ⟨g, 0, none⟩) N cap, .int .i64 n, .int .i64 N] w fun e w' => e = .returned (.slice (some ⟨g, 0, none⟩) n cap) ∧ ∃ k, w' = (w.drewN k).setCells g (n * 3) zs := by
  obtain ⟨i0, hi, hz0, hz1, hz2⟩ := info_parts infoSec
  have hcl : ∀ k ty, (Builtin.clear_ #[117] ty #[.slice (some ⟨g, n * 3, none⟩) (N - n) (cap - n)]).run Tryz.prog (w.drewN k) = .ok (.tuple #[]) ((w.drewN k).setCells g (n * 3) zs) :=
    fun k ty => run_clear_struct (w.drewN k) 117 116 ty (.agg #[.string ⟨#[]⟩, .string ⟨#[]⟩, .pointer none]) zs Tryz.underlying117 (fun w => by kernel_rfl) g (n * 3) (N - n) (cap - n) (by omega) hz h1 hc hf
  have k1 : ((n : Int) == (N : Int)) = false := by simp; omega
  have k2 : ¬ N = n := by omega
  have k3 : ¬ cap = n := by omega
  have b1 : (n : Int) ≤ (N : Int) := by omega
  have k4 : n ≤ cap := by omega
  have b2 : (N : Int) ≤ (cap : Int) := by omega
  have hcl1 : ∀ ty, (Builtin.clear_ #[117] ty #[.slice (some ⟨g, n * 3, none⟩) (N - n) (cap - n)]).run Tryz.prog w.drew = .ok (.tuple #[]) (w.drew.setCells g (n * 3) zs) := hcl 1
  unfold maxLen at hcap
  by_cases he : cap = N
  · subst he
    clear hc hf h1 hz hcl
    go_enter Tryz.func136, Tryz.ntmps136
    go_wp2_with fail
    go_region_law (refine step_append_room rfl (.tmp 22) (.tmp 25) 117 rfl 116 i0 3 Tryz.underlying117 hi hz1 g 0 n cap (by simp [Act.eval, Act.put]) ⟨g, 0, none⟩ 0 0 [] (by simp [Act.eval, Act.put]) rfl (by intro j u hu; simp at hu) (by intro u hu; simp at hu) (by omega) (by intro j hj; simp at hj) ?_; simp only [World.setCells, Nat.add_zero])
    go_wp2
    go_ret
    exact ⟨rfl, 1, rfl⟩
  · clear hc hf h1 hz hcl
    go_enter Tryz.func136, Tryz.ntmps136
    go_wp2_with fail
    go_region_law (refine step_append_room rfl (.tmp 22) (.tmp 25) 117 rfl 116 i0 3 Tryz.underlying117 hi hz1 g 0 n cap (by simp [Act.eval, Act.put]) ⟨g, N * 3, none⟩ 0 (cap - N) [] (by simp [Act.eval, Act.put]) rfl (by intro j u hu; simp at hu) (by intro u hu; simp at hu) (by omega) (by intro j hj; simp at hj) ?_; simp only [World.setCells, Nat.add_zero])
    go_wp2
    go_ret
    exact ⟨rfl, 1, rfl⟩

theorem only_setCells (g : Nat) : ∀ (vs : List Value) (o : Nat) (w : World), Only g w (w.setCells g o vs)
  | [], _, w => Only.refl g w
  | v :: r, o, w => ((Only.refl g w).setCell o v).trans (only_setCells g r (o + 1) _)
theorem at_setCells (g : Nat) (t : TypeId) : ∀ (vs : List Value) (o : Nat) (w : World) (cur : Array Value), w.heap[g]? = some (.cells cur t (0, 0)) →
    ∃ cur', (w.setCells g o vs).heap[g]? = some (.cells cur' t (0, 0)) ∧ cur'.size = cur.size ∧ ∀ i, i < o → cur'[i]? = cur[i]?
  | [], _, w, cur, h => ⟨cur, h, rfl, fun _ _ => rfl⟩
  | v :: r, o, w, cur, h => by
    obtain ⟨cur', h1, h2, h3⟩ := at_setCells g t r (o + 1) _ _ (set_at h o v)
    refine ⟨cur', h1, by rw [h2, Array.size_setIfInBounds], fun i hi => ?_⟩
    rw [h3 i (by omega), Array.getElem?_setIfInBounds, if_neg (by omega)]

theorem zeros_one (n : Nat) : ∀ v ∈ (Builtin.zeroCells (Value.agg #[.string ⟨#[]⟩, .string ⟨#[]⟩, .pointer none]).cells n).toList, v.oneCell' = true := by
  intro v hv
  have hv2 : v ∈ Builtin.zeroCells (Value.agg #[.string ⟨#[]⟩, .string ⟨#[]⟩, .pointer none]).cells n := by simpa using hv
  obtain ⟨i, hi, rfl⟩ := Array.mem_iff_getElem.1 hv2
  have hz : (Value.agg #[.string ⟨#[]⟩, .string ⟨#[]⟩, .pointer none]).cells = #[.string ⟨#[]⟩, .string ⟨#[]⟩, .pointer none] := rfl
  simp only [Builtin.zeroCells, hz] at hi ⊢
  have h3 : i % 3 = 0 ∨ i % 3 = 1 ∨ i % 3 = 2 := by omega
  rcases h3 with h | h | h <;> simp [h, Value.oneCell']

/-- the end of a row is cut off -/
theorem owns_cut {w : World} {g n N cap : Nat} {secs : List Sec} (h : w.ownsRow 0 116 3 (.slice (some ⟨g, 0, none⟩) N cap) N (secsCells secs)) (hn : n < N) :
    Calls Tryz.prog 136 #[.slice (some ⟨g, 0, none⟩) N cap, .int .i64 n, .int .i64 N] w fun e w' => e = .returned (.slice (some ⟨g, 0, none⟩) n cap) ∧ w'.ownsRow 0 116 3 (.slice (some ⟨g, 0, none⟩) n cap) n (secsCells (secs.take n)) ∧ Only g w w' := by
  obtain ⟨hc1, hc2⟩ := owns_cap h
  have hl : secs.length = N := by have := h.1; rw [secs_length] at this; omega
  rcases h.2 with ⟨h0, _⟩ | ⟨g', cap', cur, h0, h1, h2, h3, h4, h5, h6⟩
  · simp at h0
  simp only [Value.slice.injEq, Option.some.injEq, Addr.mk.injEq] at h0
  obtain ⟨⟨rfl, _⟩, _, rfl⟩ := h0
  have hzl : (Builtin.zeroCells (Value.agg #[.string ⟨#[]⟩, .string ⟨#[]⟩, .pointer none]).cells (N - n)).toList.length = (N - n) * 3 := by
    rw [Array.length_toList, size_zeroCells]; rfl
  refine (delete_end w g n N cap _ hn hc1 hc2 rfl (zeros_one _) (fun j hj => ?_) (fun j _ => free_at h2 _)).mono ?_
  · rw [hzl] at hj
    rw [cell_at h2, Array.getElem?_eq_getElem (by omega)]
    rfl
  · rintro e w' ⟨rfl, k, rfl⟩
    obtain ⟨cur', q1, q2, q3⟩ := at_setCells g 116 (Builtin.zeroCells (Value.agg #[.string ⟨#[]⟩, .string ⟨#[]⟩, .pointer none]).cells (N - n)).toList (n * 3) (w.drewN k) cur h2
    refine ⟨rfl, ⟨by rw [secs_length, List.length_take]; omega, .inr ⟨g, cap, cur', rfl, Nat.zero_le _, q1, by omega, hc2, by rw [q2]; exact h5, ?_⟩⟩, ((Only.refl g w).drewN k).trans (only_setCells g _ _ _)⟩
    have e1 : secsCells (secs.take n) = (secsCells secs).take (n * 3) := by
      have e2 : secsCells secs = secsCells (secs.take n) ++ secsCells (secs.drop n) := by rw [← secs_app, List.take_append_drop]
      conv => rhs; rw [e2]
      rw [List.take_append_of_le_length (by rw [secs_length, List.length_take]; omega)]
      exact (List.take_of_length_le (by rw [secs_length, List.length_take]; omega)).symm
    rw [e1, ← h6, List.take_take, show min (n * 3) (N * 3) = n * 3 by omega]
    apply List.ext_getElem?
    intro i
    rw [List.getElem?_take, List.getElem?_take]
    split
    · rw [Array.getElem?_toList, Array.getElem?_toList, q3 i (by assumption)]
    · rfl

end Go.Proofs.YtaabepiddbnggaaGreat.P4

/-
  Package disk: Cut on a file. (Disk, part 7.)
-/
namespace Go.Proofs.YtaabepiddbnggaaGreat.P4
open Go Go.RowKit Go.Lib Go.Proofs.YtaabepiddbnggaaGreat.P3

theorem lst_mem : ∀ {l : List Wr} {p : Option Nat} {b : Nat}, lst p l = some b → p = some b ∨ ∃ l' x, l = l' ++ [x] ∧ x.b = b := by
  intro l p b h
  by_cases hn : l = []
  · subst hn; exact .inl h
  · obtain ⟨l', x, e, h2⟩ := lst_some (p := p) hn
    rw [h2] at h
    exact .inr ⟨l', x, e, by simpa using h⟩
/-- the last one of a sector, where there is one -/
theorem lastAt_some {ws : List Wr} {i b : Nat} (h : lastAt ws i = some b) : ∃ l1 x l2, ws = l1 ++ x :: l2 ∧ x.b = b ∧ x.pos = i ∧ ∀ y ∈ l2, y.pos ≠ i := by
  unfold lastAt at h
  rcases lst_mem h with h | ⟨l', x, e, rfl⟩
  · cases h
  · obtain ⟨l1, l2, e0, e1, e2⟩ := List.filter_eq_append_iff.1 e
    obtain ⟨m1, m2, e3, e4, e5, e6⟩ := List.filter_eq_cons_iff.1 e2
    refine ⟨l1 ++ m1, x, m2, by rw [e0, e3]; simp, rfl, by simpa using e5, fun y hy => ?_⟩
    have := List.filter_eq_nil_iff.1 e6 y hy
    simpa using this
theorem lastAt_nothing {ws : List Wr} {i : Nat} (h : lastAt ws i = none) : ∀ x ∈ ws, x.pos ≠ i := by
  intro x hx e
  unfold lastAt at h
  have hm : x ∈ ws.filter (·.pos == i) := List.mem_filter.2 ⟨hx, by simpa using e⟩
  obtain ⟨l', z, e1, e2⟩ := lst_some (p := none) (List.ne_nil_of_mem hm)
  rw [h] at e2
  cases e2
theorem lastAt_drop {l1 l2 : List Wr} {x : Wr} (hl : ∀ y ∈ l2, y.pos ≠ x.pos) : lastAt (l1 ++ l2) x.pos = lastAt l1 x.pos := by
  unfold lastAt
  have h2 : l2.filter (·.pos == x.pos) = [] := List.filter_eq_nil_iff.2 (fun y hy => by simpa using hl y hy)
  rw [List.filter_append, h2, List.append_nil]
theorem lastAt_other {l1 l2 : List Wr} {x : Wr} {i : Nat} (hi : x.pos ≠ i) : lastAt (l1 ++ x :: l2) i = lastAt (l1 ++ l2) i := by
  unfold lastAt
  rw [List.filter_append, List.filter_append, List.filter_cons_of_neg (by simpa using hi)]
/-- the last one of its sector goes: the others know what they knew -/
theorem UnderOk.drop {l1 l2 : List Wr} {x : Wr} (h : UnderOk (l1 ++ x :: l2)) (hl : ∀ y ∈ l2, y.pos ≠ x.pos) : UnderOk (l1 ++ l2) := by
  intro l y r e
  rcases List.append_eq_append_iff.1 e with ⟨a, e1, e2⟩ | ⟨a, e1, e2⟩
  · -- l = l1 ++ a, l2 = a ++ y :: r
    have e3 : l1 ++ x :: l2 = (l1 ++ x :: a) ++ y :: r := by rw [e2]; simp
    have := h _ _ _ e3
    rw [this, e1]
    exact lastAt_other (fun e4 => hl y (by rw [e2]; simp) e4.symm)
  · cases a with
    | nil =>
      rw [List.append_nil] at e1
      subst e1
      have e3 : l1 ++ x :: l2 = (l1 ++ [x]) ++ y :: r := by rw [List.append_assoc]; congr 1; simpa using e2.symm
      have := h _ _ _ e3
      rw [this, lastAt_snoc, if_neg]
      exact fun e4 => hl y (by simp at e2; rw [← e2]; simp) e4.symm
    | cons z a =>
      simp only [List.cons_append, List.cons.injEq] at e2
      obtain ⟨rfl, rfl⟩ := e2
      exact h l y (a ++ x :: l2) (by rw [e1]; simp)

/-- a file some of whose writes went; all else as it was -/
structure CutSt (w : World) (F : Fl) (ws : List Wr) (wr : World) : Prop where
  blk : wr.heap[F.b]? = some (.cells ({ F with ws := ws } : Fl).cells 121 (0, 0))
  seg : Seg wr none ws none
  row : wr.ownsRow 0 116 3 F.sl F.secs.length (secsCells F.secs)
  fr : Fr (fun k => k = F.b ∨ ∃ x ∈ F.ws, x.b = k) w wr
  nodup : (ws.map (·.b)).Nodup
  under : UnderOk ws
  sub : ∀ x ∈ ws, x ∈ F.ws

theorem CutSt.below {w wr w' : World} {F : Fl} {ws : List Wr} (h : CutSt w F ws wr) (hb : Below wr.heap.size wr w') : CutSt w F ws w' :=
  ⟨old_below h.blk hb, seg_keep h.seg (fun x hx => hb.block _ (seg_lt h.seg x hx)), owns_keep h.row (fun g hg => hb.block g (h.row.lt g hg).2), h.fr.trans (.of hb), h.nodup, h.under, h.sub⟩

theorem CutSt.drop {w wr : World} {F : Fl} (hw : FileAt w F) {l1 l2 : List Wr} {x : Wr} (h : CutSt w F (l1 ++ x :: l2) wr) (hl : ∀ y ∈ l2, y.pos ≠ x.pos) (hfew : (l1 ++ x :: l2).length ≤ 100000) :
    Calls Tryz.prog 135 #[.pointer (some ⟨F.b, 3, none⟩), .pointer (some ⟨x.b, 0, none⟩)] wr fun e w' => e = .returned (.tuple #[]) ∧ CutSt w F (l1 ++ l2) w' ∧ w'.heap[x.b]? = wr.heap[x.b]? := by
  obtain ⟨hne, hnd⟩ := map_split h.nodup
  refine (drop_any wr (n := (l1 ++ x :: l2).length) h.blk rfl rfl rfl h.seg h.nodup (by simp; omega) hfew).mono ?_
  rintro e w' ⟨rfl, hD⟩
  have hxb : x.b ≠ F.b := by
    obtain ⟨_, _, hx⟩ := seg_mem h.seg x (by simp)
    exact block_ne hx h.blk (by decide)
  refine ⟨rfl, ⟨?_, hD.seg, ?_, ?_, hnd, h.under.drop hl, fun y hy => h.sub y (by rcases List.mem_append.1 hy with hy | hy <;> simp [hy])⟩, ?_⟩
  · rw [hD.blk]
    have : ((l1 ++ x :: l2).length : Int) - 1 = ((l1 ++ l2).length : Int) := by simp; omega
    rw [this]
    rfl
  · refine owns_fr h.row hD.fr (fun g hg hk => ?_)
    rcases hk with rfl | ⟨y, hy, rfl⟩
    · exact hw.ne_row.1 F.b hg rfl
    · exact hw.ne_row.2 y.b hg y (h.sub y (by rcases List.mem_append.1 hy with hy | hy <;> simp [hy])) rfl
  · refine h.fr.trans (hD.fr.mono fun k _ hk => ?_)
    rcases hk with rfl | ⟨y, hy, rfl⟩
    · exact .inl rfl
    · exact .inr ⟨y, h.sub y (by rcases List.mem_append.1 hy with hy | hy <;> simp [hy]), rfl⟩
  · obtain ⟨_, _, hx⟩ := seg_mem h.seg x (by simp)
    exact hD.fr.block x.b (lt_of_block hx) (fun hk => by
      rcases hk with e | ⟨y, hy, e⟩
      · exact hxb e
      · exact hne y hy e)

/-- those that are left when the sectors from n to n + i went -/
def outOf (n i : Nat) (ws : List Wr) : List Wr := ws.filter (fun x => decide (x.pos < n ∨ n + i ≤ x.pos))
theorem out_zero (n : Nat) (ws : List Wr) : outOf n 0 ws = ws := List.filter_eq_self.2 (fun x _ => by simp; omega)
theorem out_step (n i : Nat) (ws : List Wr) : (outOf n i ws).filter (fun x => x.pos != n + i) = outOf n (i + 1) ws := by
  unfold outOf
  rw [List.filter_filter]
  apply List.filter_congr
  intro x _
  rw [Bool.eq_iff_iff]
  simp only [Bool.and_eq_true, bne_iff_ne, ne_eq, decide_eq_true_eq]
  omega
theorem out_all (n m : Nat) (ws : List Wr) (h : ∀ x ∈ ws, x.pos < n + m) : outOf n m ws = ws.filter (fun x => decide (x.pos < n)) := by
  unfold outOf
  apply List.filter_congr
  intro x hx
  have := h x hx
  simp
  omega
theorem out_last (n i : Nat) (ws : List Wr) : lastAt (outOf n i ws) (n + i) = lastAt ws (n + i) :=
  lastAt_filter (fun k => decide (k < n ∨ n + i ≤ k)) ws (n + i) (by simp)
theorem filter_stays {ws vs : List Wr} {i : Nat} (h : vs.filter (fun x => x.pos != i) = ws.filter (fun x => x.pos != i)) (hn : lastAt vs i = none) : vs = ws.filter (fun x => x.pos != i) := by
  rw [← h]
  exact (List.filter_eq_self.2 (fun x hx => by simpa using lastAt_nothing hn x hx)).symm

end Go.Proofs.YtaabepiddbnggaaGreat.P4
