/-
  Package disk: slices.Delete at sectors: the end of a row is cut off. (Disk, part 6.)
-/
import Derived.Test.YtlgloikhdbmgdaaDk5
import Derived.Deep.RegionLaw
namespace Go.Proofs.Ytlgloikhdbmgdaa.P4
open Go Go.RowKit Go.Lib Go.Proofs.Ytlgloikhdbmgdaa.P3

/-- 'clear(s)' of structs -/
theorem run_clear_struct {P : Program} (w : World) (t e ty : TypeId) (z : Value) (zs : List Value) (ht : P.underlying t = some (.slice e)) (hv : ∀ w, (zeroValue e).run P w = .ok z w) (b o n c : Nat) (hn : 0 < n) (hz : (Builtin.zeroCells z.cells n).toList = zs) (h1 : ∀ v ∈ zs, v.oneCell' = true)
    (hc : ∀ j, j < zs.length → (w.cell? ⟨b, o + j, none⟩).isSome = true) (hf : ∀ j, j < zs.length → w.frozen? ⟨b, o + j, none⟩ = false) :
    (Builtin.clear_ #[t] ty #[.slice (some ⟨b, o, none⟩) n c]).run P w = .ok (.tuple #[]) (w.setCells b o zs) := by
  have hst := run_storeCells_cells (P := P) b o zs 0 w (by simpa using hc) (by simpa using hf) h1
  simp only [Nat.add_zero] at hst
  obtain ⟨m, rfl⟩ : ∃ m, n = m + 1 := ⟨n - 1, by omega⟩
  simp [Builtin.clear_, run_underlying ht, hv, hz, hst]

theorem delete_same (w : World) (a : Option Addr) (n cap : Nat) (hc : n ≤ cap) : Calls Try.prog 58 #[.slice a n cap, .int .i64 n, .int .i64 n] w fun e w' => e = .returned (.slice a n cap) ∧ w = w' := by
  go_enter Try.func58, Try.ntmps58
  go_wp2
  all_goals (go_ret; exact ⟨rfl, rfl⟩)

set_option maxRecDepth 100000 in
set_option maxHeartbeats 1000000 in
theorem delete_end (w : World) (g n N cap : Nat) (zs : List Value) (hn : n < N) (hN : N ≤ cap) (hcap : cap ≤ maxLen) (hz : (Builtin.zeroCells (Value.agg #[.string ⟨#[]⟩, .string ⟨#[]⟩, .pointer none]).cells (N - n)).toList = zs) (h1 : ∀ v ∈ zs, v.oneCell' = true)
    (hc : ∀ j, j < zs.length → (w.cell? ⟨g, n * 3 + j, none⟩).isSome = true) (hf : ∀ j, j < zs.length → w.frozen? ⟨g, n * 3 + j, none⟩ = false) :
    Calls Try.prog 58 #[.slice (some ⟨g, 0, none⟩) N cap, .int .i64 n, .int .i64 N] w fun e w' => e = .returned (.slice (some ⟨g, 0, none⟩) n cap) ∧ ∃ k, w' = (w.drewN k).setCells g (n * 3) zs := by
  obtain ⟨i0, hi, hz0, hz1, hz2⟩ := info_parts infoSec
  have hcl : ∀ k ty, (Builtin.clear_ #[74] ty #[.slice (some ⟨g, n * 3, none⟩) (N - n) (cap - n)]).run Try.prog (w.drewN k) = .ok (.tuple #[]) ((w.drewN k).setCells g (n * 3) zs) :=
    fun k ty => run_clear_struct (w.drewN k) 74 73 ty (.agg #[.string ⟨#[]⟩, .string ⟨#[]⟩, .pointer none]) zs Try.underlying74 (fun w => by kernel_rfl) g (n * 3) (N - n) (cap - n) (by omega) hz h1 hc hf
  have k1 : ((n : Int) == (N : Int)) = false := by simp; omega
  have k2 : ¬ N = n := by omega
  have k3 : ¬ cap = n := by omega
  have b1 : (n : Int) ≤ (N : Int) := by omega
  have k4 : n ≤ cap := by omega
  have b2 : (N : Int) ≤ (cap : Int) := by omega
  have hcl1 : ∀ ty, (Builtin.clear_ #[74] ty #[.slice (some ⟨g, n * 3, none⟩) (N - n) (cap - n)]).run Try.prog w.drew = .ok (.tuple #[]) (w.drew.setCells g (n * 3) zs) := hcl 1
  unfold maxLen at hcap
  by_cases he : cap = N
  · subst he
    clear hc hf h1 hz hcl
    go_enter Try.func58, Try.ntmps58
    go_wp2_with fail
    go_region_law (refine step_append_room rfl (.tmp 22) (.tmp 25) 74 rfl 73 i0 3 Try.underlying74 hi hz1 g 0 n cap (by simp [Act.eval, Act.put]) ⟨g, 0, none⟩ 0 0 [] (by simp [Act.eval, Act.put]) rfl (by intro j u hu; simp at hu) (by intro u hu; simp at hu) (by omega) (by intro j hj; simp at hj) ?_; simp only [World.setCells, Nat.add_zero])
    go_wp2
    go_ret
    exact ⟨rfl, 1, rfl⟩
  · clear hc hf h1 hz hcl
    go_enter Try.func58, Try.ntmps58
    go_wp2_with fail
    go_region_law (refine step_append_room rfl (.tmp 22) (.tmp 25) 74 rfl 73 i0 3 Try.underlying74 hi hz1 g 0 n cap (by simp [Act.eval, Act.put]) ⟨g, N * 3, none⟩ 0 (cap - N) [] (by simp [Act.eval, Act.put]) rfl (by intro j u hu; simp at hu) (by intro u hu; simp at hu) (by omega) (by intro j hj; simp at hj) ?_; simp only [World.setCells, Nat.add_zero])
    go_wp2
    go_ret
    exact ⟨rfl, 1, rfl⟩

theorem only_setCells (g : Nat) : ∀ (vs : List Value) (o : Nat) (w : World), Only g w (w.setCells g o vs)
  | [], _, w => Only.refl g w
  | v :: r, o, w => ((Only.refl g w).setCell o v).trans (only_setCells g r (o + 1) _)
theorem at_setCells (g : Nat) (t : TypeId) : ∀ (vs : List Value) (o : Nat) (w : World) (cur : Array Value), w.heap[g]? = some (.cells cur t (0, 0)) →
    ∃ cur', (w.setCells g o vs).heap[g]? = some (.cells cur' t (0, 0)) ∧ cur'.size = cur.size ∧ ∀ i, i < o → cur'[i]? = cur[i]?
  | [], _, w, cur, h => ⟨cur, h, rfl, fun _ _ => rfl⟩
  | v :: r, o, w, cur, h => by
    obtain ⟨cur', h1, h2, h3⟩ := at_setCells g t r (o + 1) _ _ (set_at h o v)
    refine ⟨cur', h1, by rw [h2, Array.size_setIfInBounds], fun i hi => ?_⟩
    rw [h3 i (by omega), Array.getElem?_setIfInBounds, if_neg (by omega)]

theorem zeros_one (n : Nat) : ∀ v ∈ (Builtin.zeroCells (Value.agg #[.string ⟨#[]⟩, .string ⟨#[]⟩, .pointer none]).cells n).toList, v.oneCell' = true := by
  intro v hv
  have hv2 : v ∈ Builtin.zeroCells (Value.agg #[.string ⟨#[]⟩, .string ⟨#[]⟩, .pointer none]).cells n := by simpa using hv
  obtain ⟨i, hi, rfl⟩ := Array.mem_iff_getElem.1 hv2
  have hz : (Value.agg #[.string ⟨#[]⟩, .string ⟨#[]⟩, .pointer none]).cells = #[.string ⟨#[]⟩, .string ⟨#[]⟩, .pointer none] := rfl
  simp only [Builtin.zeroCells, hz] at hi ⊢
  have h3 : i % 3 = 0 ∨ i % 3 = 1 ∨ i % 3 = 2 := by omega
  rcases h3 with h | h | h <;> simp [h, Value.oneCell']

/-- the end of a row is cut off -/
theorem owns_cut {w : World} {g n N cap : Nat} {secs : List Sec} (h : w.ownsRow 0 73 3 (.slice (some ⟨g, 0, none⟩) N cap) N (secsCells secs)) (hn : n < N) :
    Calls Try.prog 58 #[.slice (some ⟨g, 0, none⟩) N cap, .int .i64 n, .int .i64 N] w fun e w' => e = .returned (.slice (some ⟨g, 0, none⟩) n cap) ∧ w'.ownsRow 0 73 3 (.slice (some ⟨g, 0, none⟩) n cap) n (secsCells (secs.take n)) ∧ Only g w w' := by
  obtain ⟨hc1, hc2⟩ := owns_cap h
  have hl : secs.length = N := by have := h.1; rw [secs_length] at this; omega
  rcases h.2 with ⟨h0, _⟩ | ⟨g', cap', cur, h0, h1, h2, h3, h4, h5, h6⟩
  · simp at h0
  simp only [Value.slice.injEq, Option.some.injEq, Addr.mk.injEq] at h0
  obtain ⟨⟨rfl, _⟩, _, rfl⟩ := h0
  have hzl : (Builtin.zeroCells (Value.agg #[.string ⟨#[]⟩, .string ⟨#[]⟩, .pointer none]).cells (N - n)).toList.length = (N - n) * 3 := by
    rw [Array.length_toList, size_zeroCells]; rfl
  refine (delete_end w g n N cap _ hn hc1 hc2 rfl (zeros_one _) (fun j hj => ?_) (fun j _ => free_at h2 _)).mono ?_
  · rw [hzl] at hj
    rw [cell_at h2, Array.getElem?_eq_getElem (by omega)]
    rfl
  · rintro e w' ⟨rfl, k, rfl⟩
    obtain ⟨cur', q1, q2, q3⟩ := at_setCells g 73 (Builtin.zeroCells (Value.agg #[.string ⟨#[]⟩, .string ⟨#[]⟩, .pointer none]).cells (N - n)).toList (n * 3) (w.drewN k) cur h2
    refine ⟨rfl, ⟨by rw [secs_length, List.length_take]; omega, .inr ⟨g, cap, cur', rfl, Nat.zero_le _, q1, by omega, hc2, by rw [q2]; exact h5, ?_⟩⟩, ((Only.refl g w).drewN k).trans (only_setCells g _ _ _)⟩
    have e1 : secsCells (secs.take n) = (secsCells secs).take (n * 3) := by
      have e2 : secsCells secs = secsCells (secs.take n) ++ secsCells (secs.drop n) := by rw [← secs_app, List.take_append_drop]
      conv => rhs; rw [e2]
      rw [List.take_append_of_le_length (by rw [secs_length, List.length_take]; omega)]
      exact (List.take_of_length_le (by rw [secs_length, List.length_take]; omega)).symm
    rw [e1, ← h6, List.take_take, show min (n * 3) (N * 3) = n * 3 by omega]
    apply List.ext_getElem?
    intro i
    rw [List.getElem?_take, List.getElem?_take]
    split
    · rw [Array.getElem?_toList, Array.getElem?_toList, q3 i (by assumption)]
    · rfl

end Go.Proofs.Ytlgloikhdbmgdaa.P4
