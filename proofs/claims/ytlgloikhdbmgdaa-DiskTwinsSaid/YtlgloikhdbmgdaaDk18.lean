/-
  Package disk: On, Arm; a crash: how much is kept of each write. (Disk, part 18.)
-/
import Derived.Test.YtlgloikhdbmgdaaDk17
namespace Go.Proofs.Ytlgloikhdbmgdaa.P4
open Go Go.RowKit Go.Lib Go.Maps Go.ChangeMaps Go.MapKept Go.Proofs.Ytlgloikhdbmgdaa.P3

theorem on_nil (w : World) : Calls Try.prog 20 #[.pointer none] w fun e w' => e = .returned (.bool false) ∧ w = w' := by
  go_enter Try.func20, Try.ntmps20
  go_wp2
  go_ret
  exact ⟨rfl, rfl⟩
theorem on_any (w : World) (d : Nat) (b : Bool) (c1 : w.cell? ⟨d, 1, none⟩ = some (.bool b)) : Calls Try.prog 20 #[.pointer (some ⟨d, 0, none⟩)] w fun e w' => e = .returned (.bool b) ∧ w = w' := by
  go_enter Try.func20, Try.ntmps20
  go_wp2
  go_ret
  exact ⟨rfl, rfl⟩
theorem arm_nil (w : World) (n : Int) (v : Value) : Calls Try.prog 19 #[.pointer none, .int .i64 n, v] w fun e w' => e = .returned (.tuple #[]) ∧ w = w' := by
  go_enter Try.func19, Try.ntmps19
  go_wp2
  first | refine bodyPost_ret (results_none rfl _ _ _) rfl ?_ | (simp only [Exit.inBlock, Exit.then]; refine bodyPost_ret (results_none rfl _ _ _) rfl ?_)
  exact ⟨rfl, rfl⟩
theorem arm_neg (w : World) (d : Nat) (n : Int) (v : Value) (a b c : Value) (c4 : w.cell? ⟨d, 4, none⟩ = some a) (c5 : w.cell? ⟨d, 5, none⟩ = some b) (c6 : w.cell? ⟨d, 6, none⟩ = some c)
    (f4 : w.frozen? ⟨d, 4, none⟩ = false) (f5 : w.frozen? ⟨d, 5, none⟩ = false) (f6 : w.frozen? ⟨d, 6, none⟩ = false) (hn : n < 0) :
    Calls Try.prog 19 #[.pointer (some ⟨d, 0, none⟩), .int .i64 n, v] w fun e w' => e = .returned (.tuple #[]) ∧ w' = ((w.setCell ⟨d, 4, none⟩ (.bool false)).setCell ⟨d, 5, none⟩ (.int .i64 0)).setCell ⟨d, 6, none⟩ (.slice none 0 0) := by
  have k1 : ¬ 0 ≤ n := by omega
  go_enter Try.func19, Try.ntmps19
  go_wp2
  go_end0
  exact ⟨rfl, rfl⟩

/-- v reads as the ints ks, in a block that is none of S -/
def IntsR (S : Nat → Prop) (w : World) (v : Value) (ks : List Int) : Prop :=
  (∃ a c, v = .slice a 0 c ∧ ks = []) ∨ ∃ g o c, v = .slice (some ⟨g, o, none⟩) ks.length c ∧ g < w.heap.size ∧ ¬ S g ∧ ∀ (j : Nat) (x : Int), ks[j]? = some x → w.cell? ⟨g, o + j, none⟩ = some (.int .i64 x)
theorem IntsR.fr {S : Nat → Prop} {w w' : World} {v : Value} {ks : List Int} (h : IntsR S w v ks) (hf : Fr S w w') : IntsR S w' v ks := by
  rcases h with h | ⟨g, o, c, rfl, h1, h2, h3⟩
  · exact .inl h
  · refine .inr ⟨g, o, c, rfl, Nat.lt_of_lt_of_le h1 hf.size, h2, fun j x hj => ?_⟩
    rw [(heap_ext (hf.block g h1 h2) (o + j)).1]
    exact h3 j x hj

/-- how many of these writes are not kept whole -/
def lostN (κ : Nat → Nat) (l : List Wr) : Nat := (l.filter (fun x => decide (κ x.turn < 256))).length
theorem lost_snoc (κ : Nat → Nat) (l : List Wr) (x : Wr) : lostN κ (l ++ [x]) = lostN κ l + if κ x.turn < 256 then 1 else 0 := by
  unfold lostN
  rw [List.filter_append, List.length_append]
  congr 1
  by_cases h : κ x.turn < 256
  · rw [if_pos h, List.filter_cons_of_pos (by simpa using h)]; rfl
  · rw [if_neg h, List.filter_cons_of_neg (by simpa using h)]; rfl

/-- the disk's own blocks that calls write -/
def Dk.wfoot (K : Dk) (d k : Nat) : Prop := k = d ∨ K.m = some k ∨ ∃ p ∈ K.files, p.2.foot k

/-- the first loop's state: i of the writes are marked -/
structure Mk (w : World) (L : Files) (κ : Nat → Nat) (ys : List Wr) (i : Nat) (wr : World) : Prop where
  at' : FilesAt wr (markL κ ((ys.take i).map (·.turn)) L)
  fr : Fr (fun k => ∃ x ∈ allW L, x.b = k) w wr

theorem Mk.step {w wr : World} {L : Files} {κ : Nat → Nat} {ys : List Wr} {i : Nat} {x : Wr} (h : Mk w L κ ys i wr) (hap : L.Pairwise (fun p q => ∀ k, p.2.foot k → ¬ q.2.foot k)) (hnd : ((allW L).map (·.turn)).Nodup) (hp : ys.Perm (allW L)) (hs : ys.Pairwise (fun x y => x.turn < y.turn)) (hx : ys[i]? = some x) :
    Mk w L κ ys (i + 1) (wr.setCell ⟨x.b, 3, none⟩ (.int .i64 (κ x.turn : Nat))) := by
  have hxm : x ∈ allW L := hp.mem_iff.1 (List.mem_of_getElem? hx)
  have ht : ys.take (i + 1) = ys.take i ++ [x] := by rw [List.take_add_one, hx]; rfl
  have hT : x.turn ∉ (ys.take i).map (·.turn) := by
    intro hm
    obtain ⟨y, hy, e⟩ := List.mem_map.1 hm
    obtain ⟨hi, hxe⟩ := List.getElem?_eq_some_iff.1 hx
    have e2 : ys = ys.take i ++ x :: ys.drop (i + 1) := by rw [← hxe, List.getElem_cons_drop, List.take_append_drop]
    rw [e2, List.pairwise_append] at hs
    have := hs.2.2 y hy x (by simp)
    omega
  refine ⟨?_, h.fr.trans (.only ((Only.refl x.b wr).setCell 3 _) ⟨x, hxm, rfl⟩)⟩
  rw [ht, List.map_append]
  exact mark_step h.at' hap hnd hxm hT
theorem Mk.skip {w wr : World} {L : Files} {κ : Nat → Nat} {ys : List Wr} {i : Nat} {x : Wr} (h : Mk w L κ ys i wr) (hx : ys[i]? = some x) (h0 : κ x.turn = 0) : Mk w L κ ys (i + 1) wr := by
  have ht : ys.take (i + 1) = ys.take i ++ [x] := by rw [List.take_add_one, hx]; rfl
  refine ⟨?_, h.fr⟩
  rw [ht, List.map_append]
  show FilesAt wr (markL κ ((ys.take i).map (·.turn) ++ [x.turn]) L)
  rw [mark_zero κ _ _ _ h0]
  exact h.at'
/-- what stands in the write's block -/
theorem Mk.cell {w wr : World} {L : Files} {κ : Nat → Nat} {ys : List Wr} {i : Nat} {x : Wr} (h : Mk w L κ ys i wr) (hp : ys.Perm (allW L)) (hs : ys.Pairwise (fun x y => x.turn < y.turn)) (hx : ys[i]? = some x) :
    ∃ c : Array Value, wr.heap[x.b]? = some (.cells c 71 (0, 0)) ∧ c[3]? = some (.int .i64 0) := by
  have hxm : x ∈ allW L := hp.mem_iff.1 (List.mem_of_getElem? hx)
  obtain ⟨p, hpL, hxw⟩ := allW_mem.1 hxm
  have hF : FileAt wr (markF κ ((ys.take i).map (·.turn)) p.2) := h.at' _ (List.mem_map.2 ⟨p, hpL, rfl⟩)
  obtain ⟨a, b, hxa⟩ := seg_mem hF.seg (markW κ ((ys.take i).map (·.turn)) x) (List.mem_map.2 ⟨x, hxw, rfl⟩)
  refine ⟨_, hxa, ?_⟩
  have hT : x.turn ∉ (ys.take i).map (·.turn) := by
    intro hm
    obtain ⟨y, hy, e⟩ := List.mem_map.1 hm
    obtain ⟨hi, hxe⟩ := List.getElem?_eq_some_iff.1 hx
    have e2 : ys = ys.take i ++ x :: ys.drop (i + 1) := by rw [← hxe, List.getElem_cons_drop, List.take_append_drop]
    rw [e2, List.pairwise_append] at hs
    have := hs.2.2 y hy x (by simp)
    omega
  show some (Value.int .i64 ((markW κ ((ys.take i).map (·.turn)) x).kept : Nat)) = _
  unfold markW Wr.keep
  simp only [if_neg hT]
  rfl

end Go.Proofs.Ytlgloikhdbmgdaa.P4
