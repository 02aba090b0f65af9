/-
  Package once's queue: what it is in memory; Len, Less, Swap.
-/
import Derived.Test.YtalgbimclagdjaaCount3
import Derived.Test.YtalgbimclagdjaaLists3
import Derived.Test.YtalgbimclagdjaaMapI
import Derived.BigRegion
namespace Go.Proofs.Ytalgbimclagdjaa.P3
open Go Go.RowKit Go.Lib Go.Maps Go.ChangeMaps Go.MapKept

/-- row r holds the pins ps -/
def RowIs (w : World) (r cap : Nat) (ps : PinL) : Prop :=
  ∃ rc : Array Value, w.heap[r]? = some (.cells rc 84 (0, 0)) ∧ rc.size = cap * 2 ∧ ps.length ≤ cap ∧ cap ≤ maxLen ∧ ∀ k, k < ps.length → rc[k * 2]? = some (.int .i64 (num ps k)) ∧ rc[k * 2 + 1]? = some (.int .i64 (idn ps k))
/-- the map D tells each pin's place by its id -/
def Ties (D : DataW Unit) (ps : PinL) : Prop :=
  (∀ k, k < ps.length → Maps.has D (kl (idn ps k)) = true ∧ D.atKey (kl (idn ps k)) (dI 0) = dI k) ∧ ∀ a, Maps.has D (kl a) = true → ∃ k, k < ps.length ∧ idn ps k = a
/-- block b is Pins whose queue is ps, in row r, with the map m; its cells are cb; ids are at most N -/
structure QIs (w : World) (b : Nat) (cb : Array Value) (r m cap N : Nat) (ps : PinL) (D : DataW Unit) : Prop where
  blk : w.heap[b]? = some (.cells cb 61 (0, 0))
  c3 : cb[3]? = some (.slice (some ⟨r, 0, none⟩) ps.length cap)
  c4 : cb[4]? = some (.map (some m))
  row : RowIs w r cap ps
  map : MapIs w m N D
  ties : Ties D ps
  ids : ∀ k, k < ps.length → 1 ≤ idn ps k ∧ idn ps k ≤ N
  len : ps.length ≤ N
  room : N ≤ 1000000

theorem dI_inj {a b : Int} (h : dI a = dI b) : a = b := by simpa [dI] using h
theorem Ties.inj {D : DataW Unit} {ps : PinL} (h : Ties D ps) {i j : Nat} (hi : i < ps.length) (hj : j < ps.length) (e : idn ps i = idn ps j) : i = j := by
  have h1 := (h.1 i hi).2
  have h2 := (h.1 j hj).2
  rw [e, h2] at h1
  have := dI_inj h1
  omega
theorem QIs.br {w : World} {b : Nat} {cb : Array Value} {r m cap N : Nat} {ps : PinL} {D : DataW Unit} (h : QIs w b cb r m cap N ps D) : b ≠ r := by
  obtain ⟨rc, hr, _⟩ := h.row
  intro e
  subst e
  have := h.blk
  rw [hr] at this
  simp at this
theorem QIs.bm {w : World} {b : Nat} {cb : Array Value} {r m cap N : Nat} {ps : PinL} {D : DataW Unit} (h : QIs w b cb r m cap N ps D) : b ≠ m := by
  obtain ⟨es, clock, hm, _⟩ := h.map
  intro e
  subst e
  have := h.blk
  rw [hm] at this
  simp at this
theorem QIs.rm {w : World} {b : Nat} {cb : Array Value} {r m cap N : Nat} {ps : PinL} {D : DataW Unit} (h : QIs w b cb r m cap N ps D) : r ≠ m := by
  obtain ⟨es, clock, hm, _⟩ := h.map
  obtain ⟨rc, hr, _⟩ := h.row
  intro e
  subst e
  rw [hr] at hm
  simp at hm
theorem wf_small {a : Int} (h0 : 0 ≤ a) (h1 : a ≤ 1000000) : (Lit.int .i64 a).wf = true := WalkArith.wf_i64 (by omega)
theorem fr_map {S : Nat → Prop} {w w' : World} {m N : Nat} {D : DataW Unit} (h : MapIs w m N D) (hf : Fr S w w') (hm : ¬ S m) : MapIs w' m N D := by
  obtain ⟨es, clock, hb, r⟩ := h
  exact ⟨es, clock, hf.keep hb hm, r⟩
theorem fr_row {S : Nat → Prop} {w w' : World} {r cap : Nat} {ps : PinL} (h : RowIs w r cap ps) (hf : Fr S w w') (hm : ¬ S r) : RowIs w' r cap ps := by
  obtain ⟨rc, hb, q⟩ := h
  exact ⟨rc, hf.keep hb hm, q⟩
theorem QIs.fr {S : Nat → Prop} {w w' : World} {b : Nat} {cb : Array Value} {r m cap N : Nat} {ps : PinL} {D : DataW Unit} (h : QIs w b cb r m cap N ps D) (hf : Fr S w w') (h1 : ¬ S b) (h2 : ¬ S r) (h3 : ¬ S m) : QIs w' b cb r m cap N ps D :=
  { h with blk := hf.keep h.blk h1, row := fr_row h.row hf h2, map := fr_map h.map hf h3 }
theorem QIs.below {w w' : World} {b : Nat} {cb : Array Value} {r m cap N : Nat} {ps : PinL} {D : DataW Unit} (h : QIs w b cb r m cap N ps D) (hf : Below w.heap.size w w') : QIs w' b cb r m cap N ps D :=
  h.fr (Fr.of (S := fun _ => False) hf) id id id

/-- the exchange, in the map -/
theorem ties_swap {D : DataW Unit} {ps : PinL} (h : Ties D ps) (hD : IsMap D) {i j : Nat} (hi : i < ps.length) (hj : j < ps.length) (hij : i ≠ j) :
    Ties ((D.put (kl (idn ps j)) (dI i)).put (kl (idn ps i)) (dI j)) (swp ps i j) := by
  have hne : idn ps i ≠ idn ps j := fun e => hij (h.inj hi hj e)
  have kne : kl (idn ps j) ≠ kl (idn ps i) := fun e => hne (kl_inj e).symm
  refine ⟨fun k hk => ?_, fun a ha => ?_⟩
  · rw [swp_length] at hk
    rw [swp_idn ps i j k hi hj]
    by_cases e1 : k = j
    · subst e1
      rw [if_pos rfl]
      exact ⟨has_put_same (hD.put _ _) (keylit _) _, atKey_put_same (hD.put _ _) (keylit _) _ _⟩
    · rw [if_neg e1]
      by_cases e2 : k = i
      · subst e2
        rw [if_pos rfl, has_put_other kne, atKey_put_other kne]
        exact ⟨has_put_same hD (keylit _) _, atKey_put_same hD (keylit _) _ _⟩
      · rw [if_neg e2]
        have n1 : kl (idn ps k) ≠ kl (idn ps i) := fun e => e2 (h.inj hk hi (kl_inj e))
        have n2 : kl (idn ps k) ≠ kl (idn ps j) := fun e => e1 (h.inj hk hj (kl_inj e))
        rw [has_put_other n1, has_put_other n2, atKey_put_other n1, atKey_put_other n2]
        exact h.1 k hk
  · rw [swp_length]
    by_cases e1 : a = idn ps i
    · exact ⟨j, hj, by rw [swp_idn ps i j j hi hj, if_pos rfl, e1]⟩
    · by_cases e2 : a = idn ps j
      · exact ⟨i, hi, by rw [swp_idn ps i j i hi hj, if_neg hij, if_pos rfl, e2]⟩
      · rw [has_put_other (fun e => e1 (kl_inj e)), has_put_other (fun e => e2 (kl_inj e))] at ha
        obtain ⟨k, hk, rfl⟩ := h.2 a ha
        refine ⟨k, hk, ?_⟩
        rw [swp_idn ps i j k hi hj, if_neg (fun e => e2 (by rw [e])), if_neg (fun e => e1 (by rw [e]))]

/-- the exchange, in the row -/
theorem row_swap {w : World} {r cap : Nat} {ps : PinL} (h : RowIs w r cap ps) {i j : Nat} (hi : i < ps.length) (hj : j < ps.length) (hij : i ≠ j) :
    RowIs ((((w.setCell ⟨r, i * 2, none⟩ (.int .i64 (num ps j))).setCell ⟨r, i * 2 + 1, none⟩ (.int .i64 (idn ps j))).setCell ⟨r, j * 2, none⟩ (.int .i64 (num ps i))).setCell ⟨r, j * 2 + 1, none⟩ (.int .i64 (idn ps i))) r cap (swp ps i j) := by
  obtain ⟨rc, hr, hs, hl, hmx, hc⟩ := h
  refine ⟨_, set_at (set_at (set_at (set_at hr _ _) _ _) _ _) _ _, by simpa using hs, by rw [swp_length]; exact hl, hmx, fun k hk => ?_⟩
  rw [swp_length] at hk
  rw [swp_num ps i j k hi hj, swp_idn ps i j k hi hj]
  simp only [Array.getElem?_setIfInBounds, Array.size_setIfInBounds]
  by_cases e1 : k = j
  · subst e1
    rw [if_neg (by omega), if_pos rfl, if_pos (by omega), if_pos rfl, if_pos rfl, if_pos (by omega), if_pos rfl]
    exact ⟨rfl, rfl⟩
  · by_cases e2 : k = i
    · subst e2
      rw [if_neg (by omega), if_neg (by omega), if_neg (by omega), if_pos rfl, if_pos (by omega), if_neg e1, if_pos rfl, if_neg (by omega), if_neg (by omega), if_pos rfl, if_pos (by omega), if_neg e1, if_pos rfl]
      exact ⟨rfl, rfl⟩
    · rw [if_neg (by omega), if_neg (by omega), if_neg (by omega), if_neg (by omega), if_neg e1, if_neg e2, if_neg (by omega), if_neg (by omega), if_neg (by omega), if_neg (by omega), if_neg e1, if_neg e2]
      exact hc k hk

set_option maxRecDepth 100000 in
theorem qlen (w : World) (b : Nat) (v : Option Addr) (n cap : Nat) (h : w.cell? ⟨b, 3, none⟩ = some (.slice v n cap)) :
    Calls Try.prog 48 #[.pointer (some ⟨b, 3, none⟩)] w fun e w' => e = .returned (.int .i64 n) ∧ w = w' := by
  go_enter Try.func48, Try.ntmps48
  go_wp2
  go_ret
  exact ⟨rfl, rfl⟩

set_option maxRecDepth 100000 in
theorem qless0 (w : World) (b r : Nat) (n cap i j : Nat) (hi : i < n) (hj : j < n) (x y : Int) (h : w.cell? ⟨b, 3, none⟩ = some (.slice (some ⟨r, 0, none⟩) n cap))
    (ci : w.cell? ⟨r, i * 2, none⟩ = some (.int .i64 x)) (cj : w.cell? ⟨r, j * 2, none⟩ = some (.int .i64 y)) :
    Calls Try.prog 93 #[.pointer (some ⟨b, 3, none⟩), .int .i64 i, .int .i64 j] w fun e w' => e = .returned (.bool (decide (x < y))) ∧ ∃ k, w' = w.drewN k := by
  have b1 : (i : Int) < (n : Int) := by omega
  have b2 : (j : Int) < (n : Int) := by omega
  go_enter Try.func93, Try.ntmps93
  go_wp2
  go_quiet (fail)
  go_wp2
  go_ret
  exact ⟨rfl, ⟨_, rfl⟩⟩
theorem qless (w : World) {b : Nat} {cb : Array Value} {r m cap N : Nat} {ps : PinL} {D : DataW Unit} (h : QIs w b cb r m cap N ps D) (i j : Nat) (hi : i < ps.length) (hj : j < ps.length) :
    Calls Try.prog 93 #[.pointer (some ⟨b, 3, none⟩), .int .i64 i, .int .i64 j] w fun e w' => e = .returned (.bool (decide (num ps i < num ps j))) ∧ ∃ k, w' = w.drewN k := by
  obtain ⟨rc, hr, hs, hl, hmx, hc⟩ := h.row
  exact qless0 w b r ps.length cap i j hi hj _ _ ((cell_at h.blk 3).trans h.c3) ((cell_at hr _).trans (hc i hi).1) ((cell_at hr _).trans (hc j hj).1)

end Go.Proofs.Ytalgbimclagdjaa.P3
