/-
  Package disk: how much a crash keeps of each write. (Disk, part 17.)
-/
import Derived.Test.YtlgloikhdbmgdaaDk16
namespace Go.Proofs.Ytlgloikhdbmgdaa.P4
open Go Go.RowKit Go.Lib Go.Maps Go.ChangeMaps Go.MapKept Go.Proofs.Ytlgloikhdbmgdaa.P3

/-- how many writes came ahead of turn t -/
def rankW (l : List Wr) (t : Nat) : Nat := (l.filter (fun x => decide (x.turn < t))).length
/-- from 0 to a sector's size -/
def clampI (k : Int) : Nat := (min (max k 0) 256).toNat
theorem clamp_le (k : Int) : clampI k ≤ 256 := by unfold clampI; omega
/-- how much is kept of the write of turn t -/
def keptOf (l : List Wr) (ks : List Int) (t : Nat) : Nat := clampI (ks.getD (rankW l t) 0)
theorem kept_le (l : List Wr) (ks : List Int) (t : Nat) : keptOf l ks t ≤ 256 := clamp_le _
theorem rank_perm {l m : List Wr} (h : l.Perm m) (t : Nat) : rankW l t = rankW m t := (h.filter _).length_eq
theorem rank_at {ys : List Wr} (hs : ys.Pairwise (fun x y => x.turn < y.turn)) {i : Nat} {x : Wr} (hx : ys[i]? = some x) : rankW ys x.turn = i := by
  obtain ⟨hi, hxe⟩ := List.getElem?_eq_some_iff.1 hx
  have e : ys = ys.take i ++ x :: ys.drop (i + 1) := by
    rw [← hxe, List.getElem_cons_drop, List.take_append_drop]
  have hs2 := hs
  rw [e, List.pairwise_append, List.pairwise_cons] at hs2
  unfold rankW
  conv => lhs; rw [e]
  rw [List.filter_append, List.filter_cons_of_neg (by simp), List.filter_eq_self.2 (fun y hy => by simpa using hs2.2.2 y hy x (by simp)), List.filter_eq_nil_iff.2 (fun y hy => by have := hs2.2.1.1 y hy; simp; omega)]
  rw [List.append_nil, List.length_take]
  omega

/-- the writes of these turns are marked -/
def markW (κ : Nat → Nat) (T : List Nat) (x : Wr) : Wr := x.keep (if x.turn ∈ T then κ x.turn else 0)
def markF (κ : Nat → Nat) (T : List Nat) (F : Fl) : Fl := { F with ws := F.ws.map (markW κ T) }
def markL (κ : Nat → Nat) (T : List Nat) (L : Files) : Files := L.map fun p => (p.1, markF κ T p.2)
theorem markW_b (κ : Nat → Nat) (T : List Nat) (x : Wr) : (markW κ T x).b = x.b := rfl
theorem markF_foot (κ : Nat → Nat) (T : List Nat) (F : Fl) (k : Nat) : (markF κ T F).foot k ↔ F.foot k := by
  unfold Fl.foot markF
  constructor
  · rintro (h | h | ⟨x, hx, h⟩)
    · exact .inl h
    · exact .inr (.inl h)
    · obtain ⟨y, hy, rfl⟩ := List.mem_map.1 hx
      exact .inr (.inr ⟨y, hy, h⟩)
  · rintro (h | h | ⟨x, hx, h⟩)
    · exact .inl h
    · exact .inr (.inl h)
    · exact .inr (.inr ⟨_, List.mem_map.2 ⟨x, hx, rfl⟩, h⟩)
theorem keep_same (x : Wr) (h : x.kept = 0) : x.keep 0 = x := by cases x; simp_all [Wr.keep]
theorem mark_nil (κ : Nat → Nat) {L : Files} (h : ∀ x ∈ allW L, x.kept = 0) : markL κ [] L = L := by
  unfold markL
  have : ∀ p ∈ L, (p.1, markF κ [] p.2) = p := by
    intro p hp
    unfold markF
    have e : p.2.ws.map (markW κ []) = p.2.ws := by
      rw [List.map_congr_left (g := id)]
      · exact List.map_id _
      · intro x hx
        unfold markW
        simp only [List.not_mem_nil, if_false]
        exact keep_same x (h x (allW_mem.2 ⟨p, hp, hx⟩))
    rw [e]
  exact (List.map_congr_left (g := id) this).trans (List.map_id _)
theorem mark_zero (κ : Nat → Nat) (T : List Nat) (t : Nat) (L : Files) (h : κ t = 0) : markL κ (T ++ [t]) L = markL κ T L := by
  unfold markL
  refine List.map_congr_left (fun p _ => ?_)
  unfold markF
  have e : p.2.ws.map (markW κ (T ++ [t])) = p.2.ws.map (markW κ T) := by
    refine List.map_congr_left (fun x _ => ?_)
    unfold markW
    by_cases e : x.turn = t
    · rw [if_pos (by simp [e]), e, h]
      split <;> simp
    · have : x.turn ∈ T ++ [t] ↔ x.turn ∈ T := by simp [e]
      simp only [this]
  rw [e]
theorem turn_inj {l : List Wr} (hn : (l.map (·.turn)).Nodup) {a b : Wr} (ha : a ∈ l) (hb : b ∈ l) (e : a.turn = b.turn) : a = b := by
  induction l with
  | nil => simp at ha
  | cons p r ih =>
    rw [List.map_cons, List.nodup_cons] at hn
    rcases List.mem_cons.1 ha with ea | ma
    · rcases List.mem_cons.1 hb with eb | mb
      · rw [ea, eb]
      · exact absurd (List.mem_map.2 ⟨b, mb, by rw [← e, ea]⟩) hn.1
    · rcases List.mem_cons.1 hb with eb | mb
      · exact absurd (List.mem_map.2 ⟨a, ma, by rw [e, eb]⟩) hn.1
      · exact ih hn.2 ma mb
theorem mark_map {κ : Nat → Nat} {T : List Nat} {t : Nat} {l : List Wr} (h : ∀ y ∈ l, y.turn ≠ t) : l.map (markW κ (T ++ [t])) = l.map (markW κ T) := by
  refine List.map_congr_left (fun y hy => ?_)
  unfold markW
  have : y.turn ∈ T ++ [t] ↔ y.turn ∈ T := by simp [h y hy]
  simp only [this]

/-- one more write is marked, in memory -/
theorem mark_step {w : World} {L : Files} {κ : Nat → Nat} {T : List Nat} {x : Wr} (h : FilesAt w (markL κ T L)) (hap : L.Pairwise (fun p q => ∀ k, p.2.foot k → ¬ q.2.foot k)) (hnd : ((allW L).map (·.turn)).Nodup) (hx : x ∈ allW L) (hT : x.turn ∉ T) :
    FilesAt (w.setCell ⟨x.b, 3, none⟩ (.int .i64 (κ x.turn : Nat))) (markL κ (T ++ [x.turn]) L) := by
  intro q hq
  obtain ⟨p, hp, rfl⟩ := List.mem_map.1 hq
  have hF : FileAt w (markF κ T p.2) := h _ (List.mem_map.2 ⟨p, hp, rfl⟩)
  obtain ⟨px, hpx, hxw⟩ := allW_mem.1 hx
  by_cases hin : x ∈ p.2.ws
  · obtain ⟨l, r, e⟩ := List.append_of_mem hin
    have hno : ∀ y ∈ l ++ r, y.turn ≠ x.turn := by
      intro y hy et
      have hnd2 : (p.2.ws.map (·.turn)).Nodup := by
        have : (p.2.ws).Sublist (allW L) := by
          unfold allW
          obtain ⟨a, b, e2⟩ := List.append_of_mem hp
          rw [e2, List.flatMap_append, List.flatMap_cons]
          exact (List.sublist_append_left _ _).trans (List.sublist_append_right _ _)
        exact (this.map _).nodup hnd
      rw [e, List.map_append, List.map_cons] at hnd2
      have hp2 : (l.map (·.turn) ++ x.turn :: r.map (·.turn)).Perm (x.turn :: (l.map (·.turn) ++ r.map (·.turn))) := List.perm_middle
      have h3 := hp2.nodup_iff.1 hnd2
      rw [List.nodup_cons, ← List.map_append] at h3
      exact h3.1 (List.mem_map.2 ⟨y, hy, et⟩)
    have e1 : p.2.ws.map (markW κ T) = l.map (markW κ T) ++ markW κ T x :: r.map (markW κ T) := by rw [e]; simp
    have e2 : p.2.ws.map (markW κ (T ++ [x.turn])) = l.map (markW κ T) ++ (markW κ T x).keep (κ x.turn) :: r.map (markW κ T) := by
      rw [e, List.map_append, List.map_cons, mark_map (fun y hy => hno y (List.mem_append_left _ hy)), mark_map (fun y hy => hno y (List.mem_append_right _ hy))]
      congr 2
      unfold markW
      rw [if_pos (by simp)]
      rfl
    have hseg := hF.seg
    have hsegs : Seg w none (l.map (markW κ T) ++ markW κ T x :: r.map (markW κ T)) none := by rw [← e1]; exact hseg
    have hnb : ((l.map (markW κ T) ++ markW κ T x :: r.map (markW κ T)).map (·.b)).Nodup := by rw [← e1]; exact hF.nodup
    have hne := (map_split hnb).1
    have hk := seg_kept hsegs hne (κ x.turn)
    have hxb : p.2.b ≠ x.b := by
      obtain ⟨_, _, hxa⟩ := seg_mem hsegs (markW κ T x) (by simp)
      exact block_ne hF.blk hxa (by decide)
    refine ⟨?_, ?_, ?_, ?_⟩
    · have hb := hF.blk
      show (World.setCell _ _ _).heap[p.2.b]? = _
      rw [Below.heap_setCell _ _ _ _ hxb, show w.heap[p.2.b]? = _ from hb]
      unfold Fl.cells markF
      simp only
      rw [e1, e2, hd_app, hd_app, lst_app, lst_app]
      simp [hd, lst, Wr.keep, markW]
    · refine owns_keep hF.row (fun g hg => Below.heap_setCell _ _ _ _ (fun e3 => ?_))
      obtain ⟨_, _, hxa⟩ := seg_mem hsegs (markW κ T x) (by simp)
      exact hF.ne_row.2 g hg (markW κ T x) (by show _ ∈ p.2.ws.map _; rw [e1]; simp) e3.symm
    · show Seg _ none (p.2.ws.map (markW κ (T ++ [x.turn]))) none
      rw [e2]
      exact hk
    · show ((p.2.ws.map (markW κ (T ++ [x.turn]))).map (·.b)).Nodup
      have := hF.nodup
      rw [List.map_map]
      have h4 : ((p.2.ws.map (markW κ T)).map (·.b)).Nodup := this
      rw [List.map_map] at h4
      exact h4
  · have hno : ∀ y ∈ p.2.ws, y.turn ≠ x.turn := fun y hy et => hin (by rw [← turn_inj hnd (allW_mem.2 ⟨p, hp, hy⟩) hx et]; exact hy)
    have e2 : markF κ (T ++ [x.turn]) p.2 = markF κ T p.2 := by
      unfold markF
      rw [mark_map hno]
    rw [e2]
    have hne : p ≠ px := fun e => hin (e ▸ hxw)
    have hfx : px.2.foot x.b := .inr (.inr ⟨x, hxw, rfl⟩)
    refine hF.fr (Fr.only (S := (· = x.b)) ((Only.refl x.b w).setCell 3 _) rfl) (fun k hk e3 => ?_)
    rw [markF_foot] at hk
    exact files_pair hap hp hpx hne k hk (e3 ▸ hfx)

end Go.Proofs.Ytlgloikhdbmgdaa.P4
