/-
  Package once's queue: Push of one more pin.
-/
import Derived.Test.YtalgbimclagdjaaPush4
namespace Go.Proofs.Ytalgbimclagdjaa.P3
open Go Go.RowKit Go.Lib Go.Maps Go.ChangeMaps Go.MapKept

theorem num_snoc (ps : PinL) (x y : Int) (k : Nat) : num (ps ++ [(x, y)]) k = if k = ps.length then x else num ps k := by
  unfold num
  simp only [List.getD_eq_getElem?_getD, List.getElem?_append]
  split
  · rw [if_neg (by omega)]
  · split
    · rename_i h; subst h; simp
    · rename_i h1 h2
      rw [List.getElem?_eq_none (by simp; omega), List.getElem?_eq_none (by omega)]
theorem idn_snoc (ps : PinL) (x y : Int) (k : Nat) : idn (ps ++ [(x, y)]) k = if k = ps.length then y else idn ps k := by
  unfold idn
  simp only [List.getD_eq_getElem?_getD, List.getElem?_append]
  split
  · rw [if_neg (by omega)]
  · split
    · rename_i h; subst h; simp
    · rename_i h1 h2
      rw [List.getElem?_eq_none (by simp; omega), List.getElem?_eq_none (by omega)]

theorem ties_push {D : DataW Unit} {ps : PinL} (h : Ties D ps) (hD : IsMap D) (x y : Int) (hy : ∀ k, k < ps.length → idn ps k ≠ y) :
    Ties (D.put (kl y) (dI ps.length)) (ps ++ [(x, y)]) := by
  refine ⟨fun k hk => ?_, fun a ha => ?_⟩
  · rw [idn_snoc]
    by_cases e : k = ps.length
    · subst e
      rw [if_pos rfl]
      exact ⟨has_put_same hD (keylit _) _, atKey_put_same hD (keylit _) _ _⟩
    · rw [if_neg e]
      have hk' : k < ps.length := by simp at hk; omega
      have hne : kl (idn ps k) ≠ kl y := fun e => hy k hk' (kl_inj e)
      rw [has_put_other hne, atKey_put_other hne]
      exact h.1 k hk'
  · by_cases e : a = y
    · exact ⟨ps.length, by simp, by rw [idn_snoc, if_pos rfl, e]⟩
    · rw [has_put_other (fun e1 => e (kl_inj e1))] at ha
      obtain ⟨k, hk, hki⟩ := h.2 a ha
      exact ⟨k, by simp; omega, by rw [idn_snoc, if_neg (by omega), hki]⟩

theorem pushed_is {b m n cap N : Nat} {rowv : Option Addr} {ps : PinL} {c1 : Array Value} {x : Int} {D : DataW Unit} {W2 w' : World} (hn : n = ps.length)
    (hm : MapIs W2 m (N + 1) (D.put (kl (N + 1 : Nat)) (dI n))) (hb : W2.heap[b]? = some (.cells c1 61 (0, 0))) (h4 : c1[4]? = some (.map (some m))) (hT : Ties D ps) (hD : IsMap D)
    (hids : ∀ k, k < ps.length → 1 ≤ idn ps k ∧ idn ps k ≤ N) (hlen : ps.length ≤ N) (hroom : N < 1000000)
    (hown : W2.ownsRow 0 84 2 (.slice rowv n cap) n (flat ps)) (h : Pushed b n cap rowv (flat ps) c1 x (N + 1 : Nat) W2 w') :
    ∃ g cap', QIs w' b (c1.setIfInBounds 3 (.slice (some ⟨g, 0, none⟩) (n + 1 : Nat) cap')) g m cap' (N + 1) (ps ++ [(x, ((N + 1 : Nat) : Int))]) (D.put (kl (N + 1 : Nat)) (dI n)) ∧
      ((Value.slice rowv n cap).ownBlock = some g ∨ W2.heap.size ≤ g) ∧ Fr (fun k => k = b ∨ (Value.slice rowv n cap).ownBlock = some k) W2 w' := by
  obtain ⟨g, cap', W4, hown4, hgrow, hat, hb4, rfl⟩ := h
  rw [← flat_snoc] at hown4
  have hlt5 : 4 < c1.size := (Array.getElem?_eq_some_iff.1 h4).1
  have hrow : RowIs W4 g cap' (ps ++ [(x, ((N + 1 : Nat) : Int))]) := owns_row (by simp [hn]) hown4
  obtain ⟨es, clock, hmm, hmF⟩ := hm
  have hmne : (Value.slice rowv n cap).ownBlock ≠ some m := by
    intro e
    rcases hown.2 with ⟨h0, _⟩ | ⟨g0, cp, cur, h0, _, hg, _⟩
    · simp only [Value.slice.injEq] at h0
      rw [h0.1] at e
      simp [Value.ownBlock] at e
    · simp only [Value.slice.injEq] at h0
      rw [h0.1] at e
      simp only [Value.ownBlock, Option.some.injEq] at e
      rw [e, hmm] at hg
      simp at hg
  have hm4 : W4.heap[m]? = some (.map es clock) := by rw [hgrow.block m (lt_of_block hmm) (fun e => hmne e.symm)]; exact hmm
  have hmb : m ≠ b := by
    rintro rfl
    rw [hb] at hmm
    simp at hmm
  obtain ⟨rc, hr, hrest⟩ := hrow
  have hgb : g ≠ b := by
    rintro rfl
    rw [hb4] at hr
    simp at hr
  refine ⟨g, cap', { blk := set_at hb4 _ _, c3 := ?_, c4 := ?_, row := ⟨rc, old_set hr _ hgb _, hrest⟩, map := ⟨es, clock, old_set hm4 _ hmb _, hmF⟩, ties := ?_, ids := ?_, len := by simp; omega, room := by omega }, hat, ?_⟩
  · rw [Array.getElem?_setIfInBounds, if_pos rfl, if_pos (by omega)]
    simp [hn]
  · rw [Array.getElem?_setIfInBounds, if_neg (by decide)]
    exact h4
  · subst hn
    exact ties_push hT hD _ _ (fun k hk e => by have := hids k hk; rw [e] at this; omega)
  · intro k hk
    rw [idn_snoc]
    split
    · omega
    · have := hids k (by simp at hk; omega)
      omega
  · exact ⟨hgrow.os, hgrow.tape, hgrow.output, by simpa [World.setCell] using hgrow.size, fun k hk hS => by
      rw [Below.heap_setCell _ _ _ _ (fun e => hS (.inl e))]
      exact hgrow.block k hk (fun e => hS (.inr e.symm))⟩

theorem qpush (w : World) (lo b : Nat) (cb : Array Value) (N : Nat) (ps : PinL) (x : Int) (h : QAny lo w b cb N ps) (hlo : lo ≤ b) (hN : N < 1000000) :
    Calls Try.prog 95 #[.pointer (some ⟨b, 3, none⟩), .iface 84 (.agg #[.int .i64 x, .int .i64 (N + 1 : Nat)])] w fun e w' => e = .returned (.tuple #[]) ∧
      ∃ cb' r m cap D, lo ≤ r ∧ lo ≤ m ∧ QIs w' b cb' r m cap (N + 1) (ps ++ [(x, ((N + 1 : Nat) : Int))]) D ∧ cb'.size = cb.size ∧ (∀ k, k < 3 → cb'[k]? = cb[k]?) ∧ FrP lo b w w' := by
  have wfN : (Lit.int .i64 ((N + 1 : Nat) : Int)).wf = true := wf_small (by omega) (by omega)
  rcases h with ⟨rfl, rfl, hb, h3, h4⟩ | ⟨r, m, cap, D, hr, hm, hq⟩
  · have hlt := lt_of_block hb
    have hs5 : 4 < cb.size := (Array.getElem?_eq_some_iff.1 h4).1
    have hb0 := set_at hb 4 (.map (some w.heap.size))
    have hsz : (w.setCell ⟨b, 4, none⟩ (.map (some w.heap.size))).heap.size = w.heap.size := by simp [World.setCell]
    have hmade := World.ownsMap_made (w.setCell ⟨b, 4, none⟩ (.map (some w.heap.size))) Try.prog 3 (plainElem (H := Unit) Try.prog 3)
    rw [hsz] at hmade
    obtain ⟨W1, hW1⟩ : ∃ W1, W1 = ((w.setCell ⟨b, 4, none⟩ (.map (some w.heap.size))).alloc (.map #[] 0)).alloc (.cells #[.int .i64 x, .int .i64 ((0 + 1 : Nat) : Int)] 84) := ⟨_, rfl⟩
    have hb1 : W1.heap[b]? = some (.cells (cb.setIfInBounds 4 (.map (some w.heap.size))) 61 (0, 0)) := by rw [hW1]; exact old_alloc (old_alloc hb0 _) _
    have hl1 : W1.heap[w.heap.size + 1]? = some (.cells #[.int .i64 x, .int .i64 ((0 + 1 : Nat) : Int)] 84 (0, 0)) := by
      rw [hW1]
      have := heap_alloc_new ((w.setCell ⟨b, 4, none⟩ (.map (some w.heap.size))).alloc (.map #[] 0)) (.cells #[.int .i64 x, .int .i64 ((0 + 1 : Nat) : Int)] 84)
      simpa [hsz] using this
    have hm1 : MapIs W1 w.heap.size 0 (.map []) := by rw [hW1]; exact World.ownsMap.alloc hmade _
    obtain ⟨W2, hrun, hm2, hturn⟩ := World.ownsMap.store (w := W1.drew) hm1 lawI Try.underlying57 (by decide) (keyI wfN) (plainElem_int (a := ((0 : Nat) : Int)) Try.underlying3 (by decide))
    have hg := hturn.grown
    have hb2 : W2.heap[b]? = some (.cells (cb.setIfInBounds 4 (.map (some w.heap.size))) 61 (0, 0)) := by
      rw [hg.block b (lt_of_block hb1) (fun e => by simp at e; omega)]; exact hb1
    have hl2 : W2.heap[w.heap.size + 1]? = some (.cells #[.int .i64 x, .int .i64 ((0 + 1 : Nat) : Int)] 84 (0, 0)) := by
      rw [hg.block _ (lt_of_block hl1) (fun e => by simp at e)]; exact hl1
    have h3' : (cb.setIfInBounds 4 (.map (some w.heap.size)))[3]? = some (.slice none 0 0) := by rw [Array.getElem?_setIfInBounds, if_neg (by decide)]; exact h3
    have h4' : (cb.setIfInBounds 4 (.map (some w.heap.size)))[4]? = some (.map (some w.heap.size)) := by rw [Array.getElem?_setIfInBounds, if_pos rfl, if_pos hs5]
    refine (push_nil w b 0 none 0 (flat []) cb _ x _ hb h4 h3' h4' W1 W2 hW1 hrun hb1 hb2 hl1 hl2 (World.ownsRow_nil _ _ _ _) (by omega)).mono ?_
    rintro e w' ⟨rfl, hp⟩
    obtain ⟨g, cap', hQ, hat, hfr⟩ := pushed_is (N := 0) (ps := []) (D := .map []) rfl hm2 hb2 h4' ⟨fun k hk => absurd hk (Nat.not_lt_zero _), fun a ha => by simp [Maps.has] at ha⟩ ⟨[], rfl⟩ (fun k hk => absurd hk (Nat.not_lt_zero _)) (Nat.le_refl _) hN (World.ownsRow_nil _ _ _ _) hp
    have hW2 : w.heap.size + 1 < W2.heap.size := lt_of_block hl2
    have f1 : Fr (fun k => k = b ∨ k = w.heap.size) w W1 := by
      rw [hW1]
      exact ((Fr.only ((Only.refl b w).setCell 4 _) (.inl rfl)).trans (.of (below_new _ _))).trans (.of (below_new _ _))
    have f2 : Fr (fun k => k = b ∨ k = w.heap.size) W1 W2 := ⟨hg.os, hg.tape, hg.output, hg.size, fun k hk hS => hg.block k hk (fun e => hS (.inr (by simpa using e)))⟩
    have f3 : Fr (fun k => k = b ∨ k = w.heap.size) W2 w' := hfr.mono fun k _ hk => hk.imp id (fun e => by simp [Value.ownBlock] at e)
    have hgl : lo ≤ g := by
      rcases hat with e | e
      · simp [Value.ownBlock] at e
      · omega
    refine ⟨rfl, _, g, _, cap', _, hgl, by omega, hQ, by simp, fun k hk => ?_, .fr (S := fun k => k = b) (((f1.trans f2).trans f3).mono fun k hk hS => hS.elim id (fun e => by omega)) (fun k hk => by omega) (fun k hk => .inl hk)⟩
    rw [Array.getElem?_setIfInBounds, if_neg (by omega), Array.getElem?_setIfInBounds, if_neg (by omega)]
  · have hlt := lt_of_block hq.blk
    obtain ⟨W1, hW1⟩ : ∃ W1, W1 = w.alloc (.cells #[.int .i64 x, .int .i64 ((N + 1 : Nat) : Int)] 84) := ⟨_, rfl⟩
    have hb1 : W1.heap[b]? = some (.cells cb 61 (0, 0)) := by rw [hW1]; exact old_alloc hq.blk _
    have hl1 : W1.heap[w.heap.size]? = some (.cells #[.int .i64 x, .int .i64 ((N + 1 : Nat) : Int)] 84 (0, 0)) := by rw [hW1]; exact heap_alloc_new _ _
    have hm1 : MapIs W1 m N D := by rw [hW1]; exact World.ownsMap.alloc hq.map _
    have hr1 : RowIs W1 r cap ps := by rw [hW1]; exact fr_row hq.row (Fr.of (S := fun _ => False) (below_new _ _)) id
    have wfn : (Lit.int .i64 ((ps.length : Nat) : Int)).wf = true := wf_small (by omega) (by have := hq.len; omega)
    obtain ⟨W2, hrun, hm2, hturn⟩ := World.ownsMap.store (w := W1.drew) hm1 lawI Try.underlying57 (by unfold maxLen; omega) (keyI wfN) (plainElem_int (a := ((ps.length : Nat) : Int)) Try.underlying3 wfn)
    have hg := hturn.grown
    have hmb := hq.bm
    have hmr := hq.rm
    have hml : m < w.heap.size := World.ownsMap.lt hq.map
    have hb2 : W2.heap[b]? = some (.cells cb 61 (0, 0)) := by rw [hg.block b (lt_of_block hb1) (fun e => hmb (by simpa using e))]; exact hb1
    have hl2 : W2.heap[w.heap.size]? = some (.cells #[.int .i64 x, .int .i64 ((N + 1 : Nat) : Int)] 84 (0, 0)) := by
      rw [hg.block _ (lt_of_block hl1) (fun e => by simp at e; omega)]; exact hl1
    have f2 : Fr (· = m) W1 W2 := ⟨hg.os, hg.tape, hg.output, hg.size, fun k hk hS => hg.block k hk (fun e => hS (by simpa using e))⟩
    have hr2 : RowIs W2 r cap ps := fr_row hr1 f2 hmr
    refine (push_old w b m ps.length _ cap (flat ps) cb x _ hq.blk hq.c3 hq.c4 W1 W2 hW1 hrun hb1 hb2 hl1 hl2 (row_owns hr2) (by have := hq.len; omega)).mono ?_
    rintro e w' ⟨rfl, hp⟩
    have hD : IsMap D := by obtain ⟨es, clock, _, _, _, e⟩ := hq.map; exact ⟨_, e⟩
    obtain ⟨g, cap', hQ, hat, hfr⟩ := pushed_is rfl hm2 hb2 hq.c4 hq.ties hD hq.ids hq.len hN (row_owns hr2) hp
    have f1 : Fr (fun k => k = b ∨ k = m ∨ k = r) w W1 := by rw [hW1]; exact .of (below_new _ _)
    have f3 : Fr (fun k => k = b ∨ k = m ∨ k = r) w w' := (f1.trans (f2.mono fun k _ e => .inr (.inl e))).trans (hfr.mono fun k _ e => e.imp id (fun e => .inr (by simpa [Value.ownBlock] using e.symm)))
    obtain ⟨es, clock, hmm, _⟩ := hq.map
    obtain ⟨rc, hrr, _⟩ := hq.row
    have hW2 : w.heap.size < W2.heap.size := lt_of_block hl2
    have hgl : lo ≤ g := by
      rcases hat with e | e
      · simp [Value.ownBlock] at e; omega
      · omega
    refine ⟨rfl, _, g, m, cap', _, hgl, hm, hQ, by simp, fun k hk => ?_, .fr f3 (fun k hk => by rcases hk with e | e | e <;> omega) (fun k hk => ?_)⟩
    · rw [Array.getElem?_setIfInBounds, if_neg (by omega)]
    · rcases hk with rfl | rfl | rfl
      · exact .inl rfl
      · exact .inr (.inl ⟨_, _, hmm⟩)
      · exact .inr (.inr ⟨_, _, hrr⟩)

end Go.Proofs.Ytalgbimclagdjaa.P3
