/-
  Package once's queue: Pop.
-/
import Derived.Test.YtalgbimclagdjaaPush5
namespace Go.Proofs.Ytalgbimclagdjaa.P3
open Go Go.RowKit Go.Lib Go.Maps Go.ChangeMaps Go.MapKept

set_option maxRecDepth 100000 in
set_option maxHeartbeats 4000000 in
theorem pop0 (w : World) (b r m n cap : Nat) (cb : Array Value) (x y : Int) (hb : w.heap[b]? = some (.cells cb 61 (0, 0))) (h3 : cb[3]? = some (.slice (some ⟨r, 0, none⟩) (n + 1 : Nat) cap)) (h4 : cb[4]? = some (.map (some m)))
    (hcap : n ≤ cap) (hn : n ≤ 1000000) (hx : w.cell? ⟨r, n * 2, none⟩ = some (.int .i64 x)) (hy : w.cell? ⟨r, n * 2 + 1, none⟩ = some (.int .i64 y)) (W1 W2 : World)
    (hW1 : W1 = (w.setCell ⟨b, 3, none⟩ (.slice (some ⟨r, 0, none⟩) n cap)).alloc (.cells #[.int .i64 x, .int .i64 y] 84))
    (hM : ∀ ty, (Builtin.delete_ #[57, 3] ty #[.map (some m), .int .i64 y]).run Try.prog W1.drew = .ok (.tuple #[]) W2) 
    (hb1 : W1.heap[b]? = some (.cells (cb.setIfInBounds 3 (.slice (some ⟨r, 0, none⟩) n cap)) 61 (0, 0))) (hl1 : W1.heap[w.heap.size]? = some (.cells #[.int .i64 x, .int .i64 y] 84 (0, 0))) (hl2 : W2.heap[w.heap.size]? = some (.cells #[.int .i64 x, .int .i64 y] 84 (0, 0))) :
    Calls Try.prog 94 #[.pointer (some ⟨b, 3, none⟩)] w fun e w' => e = .returned (.iface 84 (.agg #[.int .i64 x, .int .i64 y])) ∧ W2 = w' := by
  have q3 : w.cell? ⟨b, 3, none⟩ = some (.slice (some ⟨r, 0, none⟩) (n + 1) cap) := (cell_at hb 3).trans h3
  have f3 := free_at hb 3
  have hlt := lt_of_block hb
  have b1 : (n : Int) < (n : Int) + 1 := by omega
  have b2 : (0 : Int) ≤ (n : Int) := by omega
  have b3 : (n : Int) ≤ (cap : Int) := by omega
  have b4 : (n : Int) ≤ 1000000 := by omega
  have HW := Lib.hid hW1
  have B1 := Lib.hid hb1
  have L1 := Lib.hid hl1
  have L2 := Lib.hid hl2
  have C4 := Lib.hid h4
  clear hW1 hb1 hl1 hl2 h3 h4 hb
  go_enter Try.func94, Try.ntmps94
  go_wp2
  rw [← HW.out]
  have r4 : W1.cell? ⟨b, 4, none⟩ = some (.map (some m)) := by rw [cell_at B1.out, Array.getElem?_setIfInBounds, if_neg (by decide)]; exact C4.out
  have l1 : W1.cell? ⟨w.heap.size, 1, none⟩ = some (.int .i64 y) := by rw [cell_at L1.out]; rfl
  clear q3 f3 hx hy
  go_region
  clear r4 l1 hM
  have l0 : W2.cell? ⟨w.heap.size, 0, none⟩ = some (.int .i64 x) := by rw [cell_at L2.out]; rfl
  have l1 : W2.cell? ⟨w.heap.size, 1, none⟩ = some (.int .i64 y) := by rw [cell_at L2.out]; rfl
  go_wp2
  go_ret
  exact ⟨rfl, rfl⟩

theorem num_cut (ps : PinL) (p : Int × Int) {k : Nat} (hk : k < ps.length) : num (ps ++ [p]) k = num ps k := by
  have := num_snoc ps p.1 p.2 k; rw [if_neg (by omega)] at this; exact this
theorem idn_cut (ps : PinL) (p : Int × Int) {k : Nat} (hk : k < ps.length) : idn (ps ++ [p]) k = idn ps k := by
  have := idn_snoc ps p.1 p.2 k; rw [if_neg (by omega)] at this; exact this
theorem num_last (ps : PinL) (p : Int × Int) : num (ps ++ [p]) ps.length = p.1 := by
  have := num_snoc ps p.1 p.2 ps.length; rw [if_pos rfl] at this; exact this
theorem idn_last (ps : PinL) (p : Int × Int) : idn (ps ++ [p]) ps.length = p.2 := by
  have := idn_snoc ps p.1 p.2 ps.length; rw [if_pos rfl] at this; exact this

theorem ties_pop {D : DataW Unit} {ps : PinL} {p : Int × Int} (h : Ties D (ps ++ [p])) : Ties (D.del (kl p.2)) ps := by
  refine ⟨fun k hk => ?_, fun a ha => ?_⟩
  · have hk' : k < (ps ++ [p]).length := by simp; omega
    have hne : kl (idn ps k) ≠ kl p.2 := by
      intro e
      have := h.inj hk' (show ps.length < (ps ++ [p]).length by simp) (by rw [idn_cut ps p hk, idn_last]; exact kl_inj e)
      omega
    have := h.1 k hk'
    rw [idn_cut ps p hk] at this
    rw [has_del_other hne, atKey_del_other hne]
    exact this
  · by_cases e : a = p.2
    · subst e
      rw [has_del_same] at ha
      cases ha
    · rw [has_del_other (fun e1 => e (kl_inj e1))] at ha
      obtain ⟨k, hk, hki⟩ := h.2 a ha
      have hk' : k ≠ ps.length := by
        rintro rfl
        rw [idn_last] at hki
        exact e hki.symm
      have hk2 : k < ps.length := by simp at hk; omega
      exact ⟨k, hk2, by rw [idn_cut ps p hk2] at hki; exact hki⟩

theorem qpop (w : World) {b : Nat} {cb : Array Value} {r m cap N : Nat} {ps : PinL} {p : Int × Int} {D : DataW Unit} (h : QIs w b cb r m cap N (ps ++ [p]) D) :
    Calls Try.prog 94 #[.pointer (some ⟨b, 3, none⟩)] w fun e w' => e = .returned (.iface 84 (.agg #[.int .i64 p.1, .int .i64 p.2])) ∧
      QIs w' b (cb.setIfInBounds 3 (.slice (some ⟨r, 0, none⟩) ps.length cap)) r m cap N ps (D.del (kl p.2)) ∧ Fr (fun k => k = b ∨ k = m) w w' := by
  obtain ⟨rc, hr, hs, hl, hmx, hc⟩ := h.row
  have hlen := h.len
  have hroom := h.room
  simp only [List.length_append, List.length_cons, List.length_nil, Nat.zero_add] at hl hlen
  have hlast := hc ps.length (by simp)
  rw [num_last, idn_last] at hlast
  have hid := h.ids ps.length (by simp)
  rw [idn_last] at hid
  have hbm := h.bm
  have hbr := h.br
  have hmr := h.rm
  have hml : m < w.heap.size := World.ownsMap.lt h.map
  obtain ⟨W1, hW1⟩ : ∃ W1, W1 = (w.setCell ⟨b, 3, none⟩ (.slice (some ⟨r, 0, none⟩) ps.length cap)).alloc (.cells #[.int .i64 p.1, .int .i64 p.2] 84) := ⟨_, rfl⟩
  have o1 : Only b w W1 := by rw [hW1]; exact ((Only.refl b w).setCell 3 _).alloc _
  have hb1 : W1.heap[b]? = some (.cells (cb.setIfInBounds 3 (.slice (some ⟨r, 0, none⟩) ps.length cap)) 61 (0, 0)) := by rw [hW1]; exact old_alloc (set_at h.blk _ _) _
  have hl1 : W1.heap[w.heap.size]? = some (.cells #[.int .i64 p.1, .int .i64 p.2] 84 (0, 0)) := by
    rw [hW1]
    have := heap_alloc_new (w.setCell ⟨b, 3, none⟩ (.slice (some ⟨r, 0, none⟩) ps.length cap)) (.cells #[.int .i64 p.1, .int .i64 p.2] 84)
    simpa [World.setCell] using this
  have hm1 : MapIs W1 m N D := fr_map h.map (Fr.only (S := (· = b)) o1 rfl) (fun e => hbm e.symm)
  have wfp : (Lit.int .i64 p.2).wf = true := wf_small (by omega) (by omega)
  obtain ⟨W2, hrun, hm2, hturn⟩ := World.ownsMap.drop (w := W1.drew) hm1 lawI Try.underlying57 (keyI wfp) 0
  have hrun' : ∀ ty, (Builtin.delete_ #[57, 3] ty #[.map (some m), .int .i64 p.2]).run Try.prog W1.drew = .ok (.tuple #[]) W2 := fun ty => by
    obtain ⟨W2', hrun2, _, _⟩ := World.ownsMap.drop (w := W1.drew) hm1 lawI Try.underlying57 (keyI wfp) ty
    have e : (Builtin.delete_ #[57, 3] ty #[.map (some m), .int .i64 p.2]) = Builtin.delete_ #[57, 3] 0 #[.map (some m), .int .i64 p.2] := rfl
    rw [e]
    exact hrun
  have hg := hturn.grown
  have f2 : Fr (· = m) W1 W2 := ⟨hg.os, hg.tape, hg.output, hg.size, fun k hk hS => hg.block k hk (fun e => hS (by simpa using e))⟩
  have hl2 : W2.heap[w.heap.size]? = some (.cells #[.int .i64 p.1, .int .i64 p.2] 84 (0, 0)) := f2.keep hl1 (by omega)
  refine (pop0 w b r m ps.length cap cb p.1 p.2 h.blk ?_ h.c4 (by omega) (by omega) ((cell_at hr _).trans hlast.1) ((cell_at hr _).trans hlast.2) W1 W2 hW1 hrun' hb1 hl1 hl2).mono ?_
  · have := h.c3
    simpa using this
  rintro e w' ⟨rfl, rfl⟩
  have hs5 : 4 < cb.size := (Array.getElem?_eq_some_iff.1 h.c4).1
  refine ⟨rfl, { blk := f2.keep hb1 hbm, c3 := ?_, c4 := ?_, row := ⟨rc, f2.keep (o1.keep hr (fun e => hbr e.symm)) hmr, hs, by omega, hmx, fun k hk => ?_⟩, map := hm2, ties := ties_pop h.ties, ids := fun k hk => ?_, len := by omega, room := hroom }, ?_⟩
  · rw [Array.getElem?_setIfInBounds, if_pos rfl, if_pos (by omega)]
  · rw [Array.getElem?_setIfInBounds, if_neg (by decide)]
    exact h.c4
  · have := hc k (by simp; omega)
    rw [num_cut ps p hk, idn_cut ps p hk] at this
    exact this
  · have := h.ids k (by simp; omega)
    rw [idn_cut ps p hk] at this
    exact this
  · exact (Fr.only o1 (.inl rfl)).trans (f2.mono fun k _ e => .inr e)

end Go.Proofs.Ytalgbimclagdjaa.P3
