/-
  Texts of the proof of SaidPlay8b.
-/
import Derived.Test.YtbkngnjkaledlaaGreatMp07
set_option maxHeartbeats 8000000
set_option maxRecDepth 100000
namespace Go.Proofs.YtbkngnjkaledlaaGreat.P4
open Go Go.RowKit Go.Lib Go.Maps Go.ChangeMaps Go.MapKept P3
def crP (p : List UInt8 × Fl) : Option (List UInt8 × AF) := if (p.2.stays || decide (0 < p.2.left)) = true then some (p.1, p.2.abs.crash (p.2.ws.map Wr.trip)) else none
def absP (p : List UInt8 × Fl) : List UInt8 × AF := (p.1, p.2.abs)
def todoL (L : Files) (lf : List UInt8 → Bool) : Files := L.filter (fun p => lf p.1)
theorem mark_congr (κ : Nat → Nat) {T T' : List Nat} (h : ∀ t, t ∈ T ↔ t ∈ T') (L : Files) : markL κ T L = markL κ T' L := by
 unfold markL markF
 refine List.map_congr_left (fun p _ => ?_)
 have : p.2.ws.map (markW κ T) = p.2.ws.map (markW κ T') := List.map_congr_left (fun x _ => by
  unfold markW
  simp only [h])
 rw [this]
theorem mark_dir (κ : Nat → Nat) (T : List Nat) (L : Files) : dir (markL κ T L) = dir L := by
 unfold dir markL
 rw [List.map_map]
 rfl
theorem mark_names (κ : Nat → Nat) (T : List Nat) (L : Files) : (markL κ T L).map (·.1) = L.map (·.1) := by
 unfold markL
 rw [List.map_map]
 rfl
theorem lst_mark (κ : Nat → Nat) (T : List Nat) : ∀ (l : List Wr) (p : Option Nat), lst p (l.map (markW κ T)) = lst p l
 | [], _ => rfl
 | x :: r, _ => lst_mark κ T r _
theorem lastAt_mark (κ : Nat → Nat) (T : List Nat) (l : List Wr) (i : Nat) : lastAt (l.map (markW κ T)) i = lastAt l i := by
 unfold lastAt
 rw [List.filter_map]
 have : ((fun x : Wr => x.pos == i) ∘ markW κ T) = fun x => x.pos == i := rfl
 rw [this, lst_mark]
theorem mark_ok {F : Fl} (κ : Nat → Nat) (T : List Nat) (h : FileOk F) : FileOk (markF κ T F) := by
 refine ⟨fun i s hs => ?_, ?_, fun x hx => ?_, fun x hx => ?_, h.now, h.safe, fun i s hs hno => ?_, h.nsle, h.made, h.room, ?_, ?_⟩
 ·show s.top = lastAt (F.ws.map _) i
  rw [lastAt_mark]
  exact h.tops i s hs
 ·intro l x r e
  have e' : F.ws.map (markW κ T) = l ++ x :: r := e
  obtain ⟨l0, r0, e1, e2, e3⟩ := List.map_eq_append_iff.1 e'
  obtain ⟨x0, r1, e4, e5, e6⟩ := List.map_eq_cons_iff.1 e3
  subst e2 e5 e6
  rw [lastAt_mark]
  exact h.unders l0 x0 r1 (by rw [e1, e4])
 ·obtain ⟨y, hy, rfl⟩ := List.mem_map.1 hx
  exact h.pos y hy
 ·obtain ⟨y, hy, rfl⟩ := List.mem_map.1 hx
  exact h.data y hy
 ·exact h.clean i s hs (fun x hx => hno (markW κ T x) (List.mem_map.2 ⟨x, hx, rfl⟩))
 ·show (F.ws.map _).Pairwise _
  rw [List.pairwise_map]
  exact h.turns
 ·show (F.ws.map _).length ≤ _
  rw [List.length_map]
  exact h.few
theorem mark_kept {F : Fl} {κ : Nat → Nat} (hκ : ∀ t, κ t ≤ 256) (T : List Nat) : ∀ x ∈ (markF κ T F).ws, x.kept ≤ 256 := by
 intro x hx
 obtain ⟨y, hy, rfl⟩ := List.mem_map.1 hx
 unfold markW Wr.keep
 simp only
 split
 ·exact hκ _
 ·omega
theorem todo_step {n : List UInt8} {F : Fl} {lf : List UInt8 → Bool} (hlf : lf n = true) : ∀ {L : Files}, (L.map (·.1)).Nodup → (n, F) ∈ L → (todoL L lf).Perm ((n, F) :: todoL L (fun k => lf k && !(k == n))) := by
 intro L
 induction L with
 | nil => intro _ h; simp at h
 | cons p r ih =>
  intro hn hm
  rw [List.map_cons, List.nodup_cons] at hn
  unfold todoL at *
  by_cases e : p.1 = n
  ·have hp : p = (n, F) := by
    rcases List.mem_cons.1 hm with e2 | h2
    ·exact e2.symm
    ·exact absurd (List.mem_map.2 ⟨_, h2, e.symm⟩) hn.1
   subst hp
   have h1 : r.filter (fun p => lf p.1 && !(p.1 == n)) = r.filter (fun p => lf p.1) := by
    apply List.filter_congr
    intro q hq
    have : q.1 ≠ n := fun e => hn.1 (List.mem_map.2 ⟨q, hq, e⟩)
    simp [this]
   rw [List.filter_cons_of_pos (by simpa using hlf), List.filter_cons_of_neg (by simp), h1]
  ·have hm' : (n, F) ∈ r := by
    rcases List.mem_cons.1 hm with e2 | h2
    ·exact absurd (by rw [← e2]) e
    ·exact h2
   have ih := ih hn.2 hm'
   by_cases hl : lf p.1 = true
   ·rw [List.filter_cons_of_pos (by simpa using hl), List.filter_cons_of_pos (by simp [hl, e])]
    exact (ih.cons p).trans (List.Perm.swap _ _ _)
   ·rw [List.filter_cons_of_neg (by simpa using hl), List.filter_cons_of_neg (by simp [hl])]
    exact ih
theorem todo_none {L : Files} {lf : List UInt8 → Bool} (h : ∀ k, lf k = false) : todoL L lf = [] := List.filter_eq_nil_iff.2 (fun p _ => by simp [h])
theorem todo_all {L : Files} (hn : (L.map (·.1)).Nodup) : todoL L (fun k => (lk (dir L) k).isSome) = L := by
 refine List.filter_eq_self.2 (fun p hp => ?_)
 have : (p.1, p.2.b) ∈ dir L := List.mem_map.2 ⟨p, hp, rfl⟩
 have h2 := lk_mem (L := dir L) (by rw [dir_names]; exact hn) this
 simp only [h2]
 rfl
theorem dir_app (L M : Files) : dir (L ++ M) = dir L ++ dir M := by simp [dir]
theorem dir_perm {L M : Files} (h : L.Perm M) : (dir L).Perm (dir M) := h.map _
structure Cr3 (L M : Files) (lf : List UInt8 → Bool) (wr : World) : Prop where
 at' : FilesAt wr (M ++ todoL L lf)
 org : ∀ p ∈ M, lf p.1 = false ∧ ∃ F, (p.1, F) ∈ L ∧ ∀ k, p.2.foot k → F.foot k
 mok : ∀ p ∈ M, FileOk p.2 ∧ p.2.ws = []
 names : (M.map (·.1)).Nodup
 abs : (M.map absP).Perm ((doneL L lf).filterMap crP)
theorem Cr3.others {L M : Files} {lf : List UInt8 → Bool} {wr w' : World} {n : List UInt8} {F : Fl} (h : Cr3 L M lf wr) (hap : L.Pairwise (fun p q => ∀ k, p.2.foot k → ¬ q.2.foot k)) (hm : (n, F) ∈ L) (hlf : lf n = true) (hf : Fr F.foot wr w') :
  FilesAt w' (M ++ todoL L (fun k => lf k && !(k == n))) := by
 intro p hp
 rcases List.mem_append.1 hp with hp | hp
 ·obtain ⟨h1, G, h2, h3⟩ := h.org p hp
  have hne : (p.1, G) ≠ (n, F) := by
   intro e
   simp only [Prod.mk.injEq] at e
   rw [e.1, hlf] at h1
   cases h1
  exact (h.at' p (List.mem_append_left _ hp)).fr hf (fun k hk => files_pair hap h2 hm hne k (h3 k hk))
 ·obtain ⟨h1, h2⟩ := List.mem_filter.1 hp
  have h3 : lf p.1 = true ∧ p.1 ≠ n := by simpa using h2
  have hne : p ≠ (n, F) := fun e => h3.2 (by rw [e])
  exact (h.at' p (List.mem_append_right _ (List.mem_filter.2 ⟨h1, h3.1⟩))).fr hf (files_pair hap h1 hm hne)
theorem Cr3.keep {L M : Files} {lf : List UInt8 → Bool} {wr w' : World} {n : List UInt8} {F F' : Fl} (h : Cr3 L M lf wr) (hn : (L.map (·.1)).Nodup) (hap : L.Pairwise (fun p q => ∀ k, p.2.foot k → ¬ q.2.foot k)) (hm : (n, F) ∈ L) (hlf : lf n = true) (hf : Fr F.foot wr w')
  (hF : FileAt w' F') (hok : FileOk F') (hws : F'.ws = []) (hfoot : ∀ k, F'.foot k → F.foot k) (hcr : crP (n, F) = some (n, F'.abs)) : Cr3 L ((n, F') :: M) (fun k => lf k && !(k == n)) w' := by
 refine ⟨?_, ?_, ?_, ?_, ?_⟩
 ·intro p hp
  rcases List.mem_cons.1 hp with rfl | hp
  ·exact hF
  ·exact h.others hap hm hlf hf p hp
 ·intro p hp
  rcases List.mem_cons.1 hp with rfl | hp
  ·exact ⟨by simp, F, hm, hfoot⟩
  ·obtain ⟨h1, h2⟩ := h.org p hp
   exact ⟨by simp [h1], h2⟩
 ·intro p hp
  rcases List.mem_cons.1 hp with rfl | hp
  ·exact ⟨hok, hws⟩
  ·exact h.mok p hp
 ·rw [List.map_cons, List.nodup_cons]
  refine ⟨fun hx => ?_, h.names⟩
  obtain ⟨p, hp, e⟩ := List.mem_map.1 hx
  have := (h.org p hp).1
  rw [e] at this
  rw [this] at hlf; cases hlf
 ·have h1 := (done_step hlf hn hm).filterMap crP
  rw [List.filterMap_cons_some hcr] at h1
  rw [List.map_cons]
  exact (h.abs.cons _).trans h1.symm
theorem Cr3.drop {L M : Files} {lf : List UInt8 → Bool} {wr w' : World} {n : List UInt8} {F : Fl} (h : Cr3 L M lf wr) (hn : (L.map (·.1)).Nodup) (hap : L.Pairwise (fun p q => ∀ k, p.2.foot k → ¬ q.2.foot k)) (hm : (n, F) ∈ L) (hlf : lf n = true) (hf : Fr F.foot wr w')
  (hcr : crP (n, F) = none) : Cr3 L M (fun k => lf k && !(k == n)) w' := by
 refine ⟨h.others hap hm hlf hf, fun p hp => ?_, h.mok, h.names, ?_⟩
 ·obtain ⟨h1, h2⟩ := h.org p hp
  exact ⟨by simp [h1], h2⟩
 ·have h1 := (done_step hlf hn hm).filterMap crP
  rw [List.filterMap_cons_none hcr] at h1
  exact h.abs.trans h1.symm
theorem FileAt.kinds {w : World} {F : Fl} (h : FileAt w F) : ∀ k, F.foot k → ∃ c t, w.heap[k]? = some (.cells c t (0, 0)) ∧ (t = 148 ∨ t = 143 ∨ t = 123) := by
 rintro k (rfl | hk | ⟨x, hx, rfl⟩)
 ·exact ⟨_, _, h.blk, .inl rfl⟩
 ·rcases h.row.2 with ⟨h0, _⟩ | ⟨g, cap, cur, h0, _, h2, _⟩
  ·rw [h0] at hk; cases hk
  ·rw [h0] at hk
   obtain rfl : g = k := by simpa [Value.ownBlock] using hk
   exact ⟨_, _, h2, .inr (.inl rfl)⟩
 ·obtain ⟨_, _, hx'⟩ := seg_mem h.seg x hx
  exact ⟨_, _, hx', .inr (.inr rfl)⟩
theorem Cr3.move {L M : Files} {lf : List UInt8 → Bool} {wr w' : World} (h : Cr3 L M lf wr) {b : Nat} (ho : Only b wr w') (hb : ∀ c t, wr.heap[b]? ≠ some (.cells c t (0, 0))) : Cr3 L M lf w' :=
 { h with at' := fun p hp => (h.at' p hp).fr (Fr.only (S := (· = b)) ho rfl) (fun k hk e => by
   obtain ⟨c, t, h1, _⟩ := (h.at' p hp).kinds k hk
   rw [e] at h1
   exact hb c t h1) }
theorem RngO.file {w w' : World} {m : Option Nat} {r : Nat} {L : Dir} {lf : List UInt8 → Bool} {cnt : Nat} (h : RngO w m r L lf cnt) {F : Fl} (hF : FileAt w F) (hf : Fr F.foot w w') : RngO w' m r L lf cnt := by
 rcases h with ⟨h1, h2, h3⟩ | ⟨b, rfl, n, D, left, ⟨es, clock, since, seen, c0, h1, h2, h3, h4, h5, rest⟩, hl, he⟩
 ·refine .inl ⟨h1, hf.keep h2 (fun hk => ?_), h3⟩
  obtain ⟨c, t, h4, _⟩ := hF.kinds r hk
  rw [h2] at h4; cases h4
 ·refine .inr ⟨b, rfl, n, D, left, ⟨es, clock, since, seen, c0, hf.keep h1 (fun hk => ?_), h2, h3, h4, hf.keep h5 (fun hk => ?_), rest⟩, hl, he⟩
  ·obtain ⟨c, t, h6, _⟩ := hF.kinds b hk
   rw [h1] at h6; cases h6
  ·obtain ⟨c, t, h6, _⟩ := hF.kinds r hk
   rw [h5] at h6; cases h6
theorem RngO.notCells {w : World} {m : Option Nat} {r : Nat} {L : Dir} {lf : List UInt8 → Bool} {cnt : Nat} (h : RngO w m r L lf cnt) : (∀ c t, w.heap[r]? ≠ some (.cells c t (0, 0))) ∧ ∀ b, m = some b → ∀ c t, w.heap[b]? ≠ some (.cells c t (0, 0)) := by
 rcases h with ⟨h1, h2, h3⟩ | ⟨b, rfl, n, D, left, ⟨es, clock, since, seen, c0, h1, h2, h3, h4, h5, rest⟩, hl, he⟩
 ·exact ⟨fun c t e => (by rw [h2] at e; cases e), fun b e => by rw [h1] at e; cases e⟩
 ·refine ⟨fun c t e => (by rw [h5] at e; cases e), fun b' e c t e2 => ?_⟩
  obtain rfl : b = b' := by simpa using e
  rw [h1] at e2; cases e2
theorem fr_onlyNew {S : Nat → Prop} {w wx wy : World} {r : Nat} (h : Fr S w wx) (ho : Only r wx wy) (hr : w.heap.size ≤ r) : Fr S w wy :=
 ⟨ho.os.trans h.os, ho.tape.trans h.tape, ho.output.trans h.output, Nat.le_trans h.size ho.size, fun k hk hs => (ho.block k (Nat.lt_of_lt_of_le hk h.size) (by omega)).trans (h.block k hk hs)⟩
theorem del_cons {n : List UInt8} {b : Nat} {X : Dir} (h : n ∉ X.map (·.1)) : delL ((n, b) :: X) n = X := by
 unfold delL
 rw [List.filter_cons_of_neg (by simp)]
 exact List.filter_eq_self.2 (fun p hp => by
  have : p.1 ≠ n := fun e => h (List.mem_map.2 ⟨p, hp, e⟩)
  simpa using this)
theorem Cr3.dirKeep {L M : Files} {lf : List UInt8 → Bool} {n : List UInt8} {F F' : Fl} (hn : (L.map (·.1)).Nodup) (hm : (n, F) ∈ L) (hlf : lf n = true) (hb : F'.b = F.b) : (dir (M ++ todoL L lf)).Perm (dir ((n, F') :: M ++ todoL L (fun k => lf k && !(k == n)))) := by
 have h1 := dir_perm (todo_step hlf hn hm)
 rw [dir_app]
 refine (h1.append_left _).trans ?_
 have e : dir ((n, F) :: todoL L (fun k => lf k && !(k == n))) = (n, F.b) :: dir (todoL L (fun k => lf k && !(k == n))) := rfl
 rw [e]
 refine List.perm_middle.trans ?_
 have e2 : dir ((n, F') :: M ++ todoL L (fun k => lf k && !(k == n))) = (n, F'.b) :: (dir M ++ dir (todoL L (fun k => lf k && !(k == n)))) := by simp [dir]
 rw [e2, hb]
theorem Cr3.dirDrop {L M : Files} {lf : List UInt8 → Bool} {wr : World} {n : List UInt8} {F : Fl} (h : Cr3 L M lf wr) (hn : (L.map (·.1)).Nodup) (hm : (n, F) ∈ L) (hlf : lf n = true) : (delL (dir (M ++ todoL L lf)) n).Perm (dir (M ++ todoL L (fun k => lf k && !(k == n)))) := by
 have h1 := dir_perm (todo_step hlf hn hm)
 have h2 : (dir (M ++ todoL L lf)).Perm ((n, F.b) :: (dir (M ++ todoL L (fun k => lf k && !(k == n))))) := by
  rw [dir_app, dir_app]
  exact (h1.append_left _).trans List.perm_middle
 have h3 := h2.filter (fun p : List UInt8 × Nat => p.1 != n)
 have h4 : n ∉ (dir (M ++ todoL L (fun k => lf k && !(k == n)))).map (·.1) := by
  rw [dir_names, List.map_append, List.mem_append]
  rintro (hx | hx)
  ·obtain ⟨p, hp, e⟩ := List.mem_map.1 hx
   have := (h.org p hp).1
   rw [e, hlf] at this
   cases this
  ·obtain ⟨p, hp, e⟩ := List.mem_map.1 hx
   have := (List.mem_filter.1 hp).2
   rw [e] at this
   simp at this
 have h5 := del_cons (b := F.b) h4
 unfold delL at h5 ⊢
 rw [h5] at h3
 exact h3
theorem Cr3.dirNames {L M : Files} {lf : List UInt8 → Bool} {wr : World} (h : Cr3 L M lf wr) (hn : (L.map (·.1)).Nodup) : ((dir (M ++ todoL L lf)).map (·.1)).Nodup := by
 rw [dir_names, List.map_append, List.nodup_append]
 refine ⟨h.names, (List.filter_sublist.map _).nodup hn, fun a ha b hb e => ?_⟩
 obtain ⟨p, hp, rfl⟩ := List.mem_map.1 ha
 obtain ⟨q, hq, rfl⟩ := List.mem_map.1 hb
 have h1 := (h.org p hp).1
 have h2 := (List.mem_filter.1 hq).2
 rw [e, h2] at h1
 cases h1
structure Crashed (w : World) (d : Nat) (K : Dk) (ks : List Int) (n : Int) (K' : Dk) (w' : World) : Prop where
 lost : n = lostN (keptOf (allW K.files) ks) (allW K.files)
 at' : DiskAt w' d K'
 eq : K' = { K with files := K'.files, on := false, armed := false, left := 0, kv := .slice none 0 0, keep := [] }
 abs : (K'.files.map absP).Perm ((markL (keptOf (allW K.files) ks) ((allW K.files).map (·.turn)) K.files).filterMap crP)
 foot : ∀ k, K'.foot d k → K.wfoot d k
 fr : Fr (K.wfoot d) w w'
theorem allW_none {M : Files} (h : ∀ p ∈ M, p.2.ws = []) : allW M = [] := List.flatMap_eq_nil_iff.2 h
theorem crash_done {w wx : World} {d r cnt : Nat} {K : Dk} {ks : List Int} {Lm M : Files} {lf : List UInt8 → Bool} (h : DiskAt w d K) (hL : Lm = markL (keptOf (allW K.files) ks) ((allW K.files).map (·.turn)) K.files) (hno : ∀ k, lf k = false)
  (hC : Cr3 Lm M lf wx) (hR : RngO wx K.m r (dir (M ++ todoL Lm lf)) lf cnt) (hF : Fr (K.wfoot d) w wx) (hD : wx.heap[d]? = some (.cells K.cells 73 (0, 0))) :
  Crashed w d K ks (lostN (keptOf (allW K.files) ks) (allW K.files)) { K with files := M, on := false, armed := false, left := 0, kv := .slice none 0 0, keep := [] }
   ((((wx.setCell ⟨d, 1, none⟩ (.bool false)).setCell ⟨d, 4, none⟩ (.bool false)).setCell ⟨d, 5, none⟩ (.int .i64 0)).setCell ⟨d, 6, none⟩ (.slice none 0 0)) := by
 have ho : Only d wx ((((wx.setCell ⟨d, 1, none⟩ (.bool false)).setCell ⟨d, 4, none⟩ (.bool false)).setCell ⟨d, 5, none⟩ (.int .i64 0)).setCell ⟨d, 6, none⟩ (.slice none 0 0)) := ((((Only.refl d wx).setCell _ _).setCell _ _).setCell _ _).setCell _ _
 have hat : FilesAt wx M := fun p hp => hC.at' p (List.mem_append_left _ hp)
 have hmem : ∀ p ∈ Lm, ∃ F, (p.1, F) ∈ K.files ∧ ∀ k, p.2.foot k → F.foot k := by
  intro p hp
  rw [hL] at hp
  obtain ⟨q, hq, rfl⟩ := List.mem_map.1 hp
  exact ⟨q.2, hq, fun k hk => (markF_foot _ _ _ _).1 hk⟩
 have horg : ∀ p ∈ M, ∃ F, (p.1, F) ∈ K.files ∧ ∀ k, p.2.foot k → F.foot k := by
  intro p hp
  obtain ⟨_, F, h1, h2⟩ := hC.org p hp
  obtain ⟨G, h3, h4⟩ := hmem _ h1
  exact ⟨G, h3, fun k hk => h4 k (h2 k hk)⟩
 have hnd : ∀ p ∈ M, ∀ k, p.2.foot k → k ≠ d := by
  intro p hp k hk e
  obtain ⟨c, t, h1, h2⟩ := (hat p hp).kinds k hk
  rw [e, hD] at h1
  simp at h1
  rcases h2 with rfl | rfl | rfl
  ·exact absurd h1.2 (by decide)
  ·exact absurd h1.2 (by decide)
  ·exact absurd h1.2 (by decide)
 have hws := allW_none (fun p hp => (hC.mok p hp).2)
 have hlen : M.length ≤ K.files.length := by
  have h1 := hC.abs.length_eq
  rw [List.length_map, done_all hno] at h1
  have h2 := List.length_filterMap_le crP Lm
  have h3 : Lm.length = K.files.length := by rw [hL]; unfold markL; rw [List.length_map]
  omega
 refine ⟨rfl, ⟨?_, World.ownsRow_nil _ _ _ _, ?_, ⟨?_, fun p hp => (hC.mok p hp).1, hC.names, ?_, ?_, ?_, ?_⟩, ?_, ?_, ?_⟩, rfl, ?_, ?_, ?_⟩
 ·exact set_at (set_at (set_at (set_at hD _ _) _ _) _ _) _ _
 ·have h1 := hR.map
  rw [todo_none hno, List.append_nil] at h1
  refine h1.fr (Fr.only (S := (· = d)) ho rfl) (fun b hb e => ?_)
  rw [e] at hb
  exact hR.notCells.2 d hb _ _ hD
 ·exact fun p hp => (hat p hp).fr (Fr.only (S := (· = d)) ho rfl) (fun k hk e => hnd p hp k hk e)
 ·have hnm := hC.names
  show M.Pairwise _
  have : ∀ {M' : Files}, (∀ p ∈ M', p ∈ M) → (M'.map (·.1)).Nodup → M'.Pairwise (fun p q => ∀ k, p.2.foot k → ¬ q.2.foot k) := by
   intro M'
   induction M' with
   | nil => intro _ _; exact List.Pairwise.nil
   | cons p r ih =>
    intro hs hn
    rw [List.map_cons, List.nodup_cons] at hn
    rw [List.pairwise_cons]
    refine ⟨fun q hq k hk hk2 => ?_, ih (fun q hq => hs q (List.mem_cons_of_mem _ hq)) hn.2⟩
    obtain ⟨F, h1, h2⟩ := horg p (hs p (by simp))
    obtain ⟨G, h3, h4⟩ := horg q (hs q (List.mem_cons_of_mem _ hq))
    have hne : (p.1, F) ≠ (q.1, G) := by
     intro e
     simp only [Prod.mk.injEq] at e
     exact hn.1 (List.mem_map.2 ⟨q, hq, e.1.symm⟩)
    exact files_pair h.files.apart h1 h3 hne k (h2 k hk) (h4 k hk2)
  exact this (fun p hp => hp) hnm
 ·exact Nat.le_trans hlen h.files.few
 ·intro p hp
  obtain ⟨F, h1, _⟩ := horg p hp
  exact h.files.long (p.1, F) h1
 ·show ((allW M).map (·.turn)).Nodup
  rw [hws]
  exact List.nodup_nil
 ·intro x hx
  have hx2 : x ∈ allW M := hx
  rw [hws] at hx2
  simp at hx2
 ·intro x hx
  have hx2 : x ∈ allW M := hx
  rw [hws] at hx2
  simp at hx2
 ·have := h.many
  show (allW M).length ≤ K.turn ∧ _
  rw [hws]
  exact ⟨Nat.zero_le _, this.2⟩
 ·have h1 := hC.abs
  rw [done_all hno, hL] at h1
  exact h1
 ·rintro k (rfl | hk | ⟨p, hp, hk⟩ | hk)
  ·exact .inl rfl
  ·exact .inr (.inl hk)
  ·obtain ⟨F, h1, h2⟩ := horg p hp
   exact .inr (.inr ⟨_, h1, h2 k hk⟩)
  ·cases hk
 ·exact hF.trans (.only ho (.inl rfl))
def CrPost (w : World) (d : Nat) (K : Dk) (ks : List Int) (e : Ending) (w' : World) : Prop := ∃ n K', e = .returned (.int .i64 n) ∧ Crashed w d K ks n K' w'
theorem crash_disk {w : World} {d : Nat} {K : Dk} {v : Value} {ks : List Int} (h : DiskAt w d K) (hon : K.on = true) (hv : IntsR (K.wfoot d) w v ks) :
  Calls Tryz.prog 25 #[.pointer (some ⟨d, 0, none⟩), v] w (CrPost w d K ks) := by
 have c0 : w.cell? ⟨d, 0, none⟩ = some (.map K.m) := cell_at h.blk 0
 have HOn : Hid (Calls Tryz.prog 31 #[.pointer (some ⟨d, 0, none⟩)] w fun e w' => e = .returned (.bool true) ∧ w = w') := on_any w d true ((cell_at h.blk 1).trans (by rw [← hon]; rfl))
 have HW := Lib.hid (writes_any w d K.m K.files c0 h.map h.files.names h.files.at' h.files.tnd (by have := h.many; omega))
 obtain ⟨κ, hκ⟩ : ∃ κ, κ = keptOf (allW K.files) ks := ⟨_, rfl⟩
 have HKa := Lib.hid hκ
 have HH := Lib.hid h
 obtain ⟨av, nv, cv, hvs⟩ : ∃ a n c, v = .slice a n c := by
  rcases hv with ⟨a, c, rfl, _⟩ | ⟨g, o, c, rfl, _⟩
  ·exact ⟨_, _, _, rfl⟩
  ·exact ⟨_, _, _, rfl⟩
 have hnv : nv = ks.length := by
  rcases hv with ⟨a, c, h1, rfl⟩ | ⟨g, o, c, h1, _⟩ <;> rw [hvs] at h1 <;> simp only [Value.slice.injEq] at h1
  ·exact h1.2.1
  ·exact h1.2.1
 subst hvs
 have HV := Lib.hid hv
 have HNV := Lib.hid hnv
 clear h hon hv hκ hnv c0
 go_enter Tryz.func25, Tryz.ntmps25
 go_wp2_with (first
  | (go_at_call 31; (with_reducible refine HOn.out.mono ?_); rintro e w0 ⟨rfl, rfl⟩)
  | (go_at_call 80; (with_reducible refine HW.out.mono ?_); rintro e w1 ⟨v1, ys, rfl, hp, hs, hrow, hb⟩; obtain ⟨a, cap, rfl⟩ := hrow.shape; have HP := Lib.hid hp; have HS := Lib.hid hs; have HRow := Lib.hid hrow; have HB := Lib.hid hb; obtain ⟨n, hn⟩ : ∃ n, n = ys.length := ⟨_, rfl⟩; rw [← hn]; have HN := Lib.hid hn; clear hp hs hrow hb hn))
 have hM0 : Hid (Mk w1 K.files κ ys 0 w1) := ⟨by rw [List.take_zero, List.map_nil, mark_nil κ HH.out.still]; exact fun p hp => (HH.out.files.at' p hp).below HB.out, Fr.refl _ _⟩
 have hnl : n ≤ 10000 := by have := HN.out; have := HP.out.length_eq; have := HH.out.many; omega
 go_loopg [5, 16] (n) (fun q vl vi wr => ∃ i, i ≤ n ∧ n - i ≤ q ∧ vi = .int .i64 i ∧ vl = .int .i64 (lostN κ (ys.take i) : Nat) ∧ Hid (Mk w1 K.files κ ys i wr))
 case atStart => exact ⟨0, Nat.zero_le _, by omega, rfl, rfl, hM0.out⟩
 case round =>
  clear hM0
  obtain ⟨i, hi, hq, rfl, rfl, hM⟩ := hrel
  by_cases hlt : i < n
  ·have b1 : (i : Int) < (n : Int) := by omega
   obtain ⟨x, hx⟩ : ∃ x, ys[i]? = some x := ⟨_, List.getElem?_eq_getElem (by rw [← HN.out]; exact hlt)⟩
   obtain ⟨blk, cap', cur, e1, hlo, hbk, hcu⟩ := HRow.out.cells (fun e => by rw [e] at hx; simp at hx)
   rw [← HN.out] at e1
   obtain ⟨rfl, rfl⟩ : a = some ⟨blk, 0, none⟩ ∧ cap = cap' := by simpa using e1
   obtain ⟨xc, hxc, hx3⟩ := hM.out.cell HP.out HS.out hx
   have hbx : blk ≠ x.b := by
    rintro rfl
    have := hM.out.fr.size
    have hxa := HP.out.mem_iff.1 (List.mem_of_getElem? hx)
    obtain ⟨p, hpL, hxw⟩ := allW_mem.1 hxa
    obtain ⟨_, _, h2⟩ := seg_mem (((HH.out.files.at' p hpL).below HB.out).seg) x hxw
    exact block_ne hbk h2 (by decide) rfl
   have hbr : wr.heap[blk]? = some (.cells cur 121 (0, 0)) := hM.out.fr.keep hbk (by
    rintro ⟨y, hy, e⟩
    obtain ⟨p, hpL, hxw⟩ := allW_mem.1 hy
    obtain ⟨_, _, h2⟩ := seg_mem (((HH.out.files.at' p hpL).below HB.out).seg) y hxw
    exact block_ne hbk h2 (by decide) e.symm)
   have r1 : wr.cell? ⟨blk, i, none⟩ = some (.pointer (some ⟨x.b, 0, none⟩)) := (cell_at hbr i).trans (hcu i x hx)
   have r3 : wr.cell? ⟨x.b, 3, none⟩ = some (.int .i64 0) := (cell_at hxc 3).trans hx3
   have f3 := free_at hxc 3
   have hrk : κ x.turn = clampI (ks.getD i 0) := by
    rw [HKa.out]
    unfold keptOf
    rw [← rank_perm HP.out, rank_at HS.out hx]
   have hlost := lost_snoc κ (ys.take i) x
   have htk : ys.take (i + 1) = ys.take i ++ [x] := by rw [List.take_add_one, hx]; rfl
   rw [← htk] at hlost
   have hlb : lostN κ (ys.take i) ≤ 10000 := by
    unfold lostN
    have h1 := List.length_filter_le (fun x => decide (κ x.turn < 256)) (ys.take i)
    rw [List.length_take] at h1
    omega
   have HX := Lib.hid hx
   have HRk := Lib.hid hrk
   have HLo := Lib.hid hlost
   obtain ⟨z, hz⟩ : ∃ z, z = lostN κ (ys.take i) := ⟨_, rfl⟩
   rw [← hz] at hlb HLo ⊢
   clear hx e1 hlo hbk hcu hxc hx3 hbr hrk hlost htk hz
   by_cases hik : i < ks.length
   ·have b2 : (i : Int) < (nv : Int) := by rw [HNV.out]; omega
    have hfw : Fr (K.wfoot d) w wr := (Fr.of HB.out).trans (hM.out.fr.mono (fun k _ hk => by
     obtain ⟨y, hy, rfl⟩ := hk
     obtain ⟨p, hpL, hxw⟩ := allW_mem.1 hy
     exact .inr (.inr ⟨p, hpL, .inr (.inr ⟨y, hxw, rfl⟩)⟩)))
    obtain ⟨g, o, c, e2, hgl, hgS, hgc⟩ : ∃ g o c, Value.slice av nv cv = .slice (some ⟨g, o, none⟩) ks.length c ∧ g < wr.heap.size ∧ ¬ K.wfoot d g ∧ ∀ (j : Nat) (y : Int), ks[j]? = some y → wr.cell? ⟨g, o + j, none⟩ = some (.int .i64 y) := by
     rcases HV.out.fr hfw with ⟨_, _, _, e3⟩ | ⟨g, o, c, h1, h2, h3, h4⟩
     ·rw [e3] at hik; simp at hik
     ·exact ⟨g, o, c, h1, h2, h3, h4⟩
    obtain ⟨rfl, -, -⟩ : av = some ⟨g, o, none⟩ ∧ nv = ks.length ∧ cv = c := by simpa using e2
    obtain ⟨y, hy⟩ : ∃ y, ks[i]? = some y := ⟨_, List.getElem?_eq_getElem hik⟩
    have r4 : wr.cell? ⟨g, o + i, none⟩ = some (.int .i64 y) := hgc i y hy
    have hky : κ x.turn = clampI y := by rw [HRk.out, List.getD_eq_getElem?_getD, hy]; rfl
    have HKy := Lib.hid hky
    have HM2 : Hid (Mk w1 K.files κ ys (i + 1) (wr.setCell ⟨x.b, 3, none⟩ (.int .i64 (clampI y : Nat)))) := by
     have := hM.out.step HH.out.files.apart HH.out.files.tnd HP.out HS.out HX.out
     rw [hky] at this
     exact this
    clear hfw e2 hgl hgS hgc hy hky
    by_cases hy0 : y ≤ 0
    ·have hc0 : clampI y = 0 := by unfold clampI; omega
     rw [hc0] at HM2
     have HL2 : Hid (lostN κ (ys.take (i + 1)) = z + 1) := by rw [HLo.out, if_pos (by rw [HKy.out, hc0]; omega)]; exact rfl
     have m1 : max y 0 = 0 := by omega
     clear hc0
     go_wp2
     go_roundg (n - (i + 1))
     case measure => omega
     case rel => exact ⟨i + 1, by omega, Nat.le_refl _, by go_num, by rw [HL2.out]; go_num, HM2.out⟩
    ·by_cases hy1 : y < 256
     ·have hc0 : (clampI y : Int) = y := by unfold clampI; omega
      rw [hc0] at HM2
      have HL2 : Hid (lostN κ (ys.take (i + 1)) = z + 1) := by rw [HLo.out, if_pos (by rw [HKy.out]; omega)]; exact rfl
      have m1 : max y 0 = y := by omega
      have m2 : min y 256 = y := by omega
      clear hc0
      go_wp2
      go_roundg (n - (i + 1))
      case measure => omega
      case rel => exact ⟨i + 1, by omega, Nat.le_refl _, by go_num, by rw [HL2.out]; go_num, HM2.out⟩
     ·have hc0 : clampI y = 256 := by unfold clampI; omega
      rw [hc0] at HM2
      have HL2 : Hid (lostN κ (ys.take (i + 1)) = z) := by rw [HLo.out, if_neg (by rw [HKy.out, hc0]; omega)]; exact rfl
      have m1 : max y 0 = y := by omega
      have m2 : min y 256 = 256 := by omega
      clear hc0
      go_wp2
      go_roundg (n - (i + 1))
      case measure => omega
      case rel => exact ⟨i + 1, by omega, Nat.le_refl _, by go_num, by rw [HL2.out], HM2.out⟩
   ·have b2 : ¬ ((i : Int) < (nv : Int)) := by rw [HNV.out]; omega
    have h0 : κ x.turn = 0 := by
     rw [HRk.out, List.getD_eq_getElem?_getD, List.getElem?_eq_none (by omega)]
     rfl
    have HM2 : Hid (Mk w1 K.files κ ys (i + 1) wr) := hM.out.skip HX.out h0
    have HL2 : Hid (lostN κ (ys.take (i + 1)) = z + 1) := by rw [HLo.out, if_pos (by omega)]; exact rfl
    clear h0
    go_wp2
    go_roundg (n - (i + 1))
    case measure => omega
    case rel => exact ⟨i + 1, by omega, Nat.le_refl _, by go_num, by rw [HL2.out]; go_num, HM2.out⟩
  ·obtain rfl : i = n := by omega
   obtain ⟨Lm, hLm⟩ : ∃ Lm, Lm = markL κ ((allW K.files).map (·.turn)) K.files := ⟨_, rfl⟩
   have hFm : FilesAt wr Lm := by
    have h1 := hM.out.at'
    rw [HN.out, List.take_length, mark_congr κ (T' := (allW K.files).map (·.turn)) (fun t => ((HP.out.map _).mem_iff)), ← hLm] at h1
    exact h1
   have hnm : (Lm.map (·.1)).Nodup := by rw [hLm, mark_names]; exact HH.out.files.names
   have hmem : ∀ p ∈ Lm, ∃ F, (p.1, F) ∈ K.files ∧ p.2 = markF κ ((allW K.files).map (·.turn)) F := by
    intro p hp
    rw [hLm] at hp
    obtain ⟨q, hq, rfl⟩ := List.mem_map.1 hp
    exact ⟨q.2, hq, rfl⟩
   have hok : ∀ p ∈ Lm, FileOk p.2 := by
    intro p hp
    obtain ⟨F, h1, h2⟩ := hmem p hp
    rw [h2]; exact mark_ok κ _ (HH.out.files.ok _ h1)
   have hkp : ∀ p ∈ Lm, ∀ x ∈ p.2.ws, x.kept ≤ 256 := by
    intro p hp
    obtain ⟨F, h1, h2⟩ := hmem p hp
    rw [h2]; exact mark_kept (fun t => by rw [HKa.out]; exact kept_le _ _ _) _
   have hft : ∀ p ∈ Lm, ∀ k, p.2.foot k → K.wfoot d k := by
    intro p hp k hk
    obtain ⟨F, h1, h2⟩ := hmem p hp
    rw [h2, markF_foot] at hk
    exact .inr (.inr ⟨_, h1, hk⟩)
   have hap : Lm.Pairwise (fun p q => ∀ k, p.2.foot k → ¬ q.2.foot k) := by
    rw [hLm]
    unfold markL
    rw [List.pairwise_map]
    exact HH.out.files.apart.imp (fun h k h1 h2 => h k ((markF_foot _ _ _ _).1 h1) ((markF_foot _ _ _ _).1 h2))
   have hfw : Fr (K.wfoot d) w wr := (Fr.of HB.out).trans (hM.out.fr.mono (fun k _ hk => by
    obtain ⟨y, hy, rfl⟩ := hk
    obtain ⟨p, hpL, hxw⟩ := allW_mem.1 hy
    exact .inr (.inr ⟨p, hpL, .inr (.inr ⟨y, hxw, rfl⟩)⟩)))
   have hdd : wr.heap[d]? = some (.cells K.cells 73 (0, 0)) := hM.out.fr.keep (old_below HH.out.blk HB.out) (by
    rintro ⟨y, hy, e⟩
    obtain ⟨p, hpL, hxw⟩ := allW_mem.1 hy
    obtain ⟨_, _, h2⟩ := seg_mem ((HH.out.files.at' p hpL).seg) y hxw
    exact block_ne HH.out.blk h2 (by decide) e.symm)
   have hmp : MapAt wr K.m (dir Lm) := by
    rw [hLm, mark_dir]
    have h1 : MapAt w1 K.m (dir K.files) := HH.out.map.fr (S := fun _ => False) (.of HB.out) (fun _ _ => id)
    refine h1.fr hM.out.fr (fun b hb => ?_)
    rintro ⟨y, hy, e⟩
    obtain ⟨p, hpL, hxw⟩ := allW_mem.1 hy
    obtain ⟨_, _, h2⟩ := seg_mem (((HH.out.files.at' p hpL).below HB.out).seg) y hxw
    rcases h1 with ⟨h3, _⟩ | ⟨b', D, h3, ⟨es, clock, h4, _⟩, _⟩
    ·rw [h3] at hb; cases hb
    ·rw [h3] at hb
     obtain rfl : b' = b := by simpa using hb
     have h5 : w1.heap[y.b]? = some _ := h2
     rw [e, h4] at h5
     cases h5
   have hlost : lostN κ (ys.take i) = lostN κ (allW K.files) := by
    rw [HN.out, List.take_length]
    exact (HP.out.filter _).length_eq
   have hsz : w.heap.size ≤ wr.heap.size := hfw.size
   have c0 : wr.cell? ⟨d, 0, none⟩ = some (.map K.m) := cell_at hdd 0
   have HLm := Lib.hid hLm
   have HFm := Lib.hid hFm
   have HNm := Lib.hid hnm
   have HOk := Lib.hid hok
   have HKp := Lib.hid hkp
   have HFt := Lib.hid hft
   have HAp := Lib.hid hap
   have HFw := Lib.hid hfw
   have HDd := Lib.hid hdd
   have HMp := Lib.hid hmp
   rw [hlost]
   obtain ⟨z, hz⟩ : ∃ z, z = lostN κ (allW K.files) := ⟨_, rfl⟩
   rw [← hz]
   have HZ := Lib.hid hz
   clear hLm hFm hnm hmem hok hkp hft hap hfw hdd hmp hlost hz hM hlt hq hi
   go_wp2_with (at_range; refine wpList_range_o rfl _ rfl K.m (dir Lm) rfl HMp.out ?_; intro w3 hr3 hb3 hs3; clear hs3)
   go_frame
   obtain ⟨r, hr⟩ : ∃ r, r = wr.heap.size := ⟨_, rfl⟩
   rw [← hr] at hr3 hsz ⊢
   have HR3 : Hid (RngO w3 K.m r (dir ([] ++ todoL Lm (fun k => (lk (dir Lm) k).isSome))) (fun k => (lk (dir Lm) k).isSome) (dir Lm).length) := by
    rw [List.nil_append, todo_all HNm.out]; exact hr3
   have HC3 : Hid (Cr3 Lm [] (fun k => (lk (dir Lm) k).isSome) w3) := ⟨by rw [List.nil_append, todo_all HNm.out]; exact fun p hp => (HFm.out p hp).below hb3, fun p hp => (by simp at hp), fun p hp => (by simp at hp), List.nodup_nil, by rw [done_none HNm.out]; exact List.Perm.refl _⟩
   have HF3 : Hid (Fr (K.wfoot d) w w3) := HFw.out.trans (.of hb3)
   have HD3 : Hid (w3.heap[d]? = some (.cells K.cells 73 (0, 0))) := old_below HDd.out hb3
   have HSz := Lib.hid hsz
   clear hr3 hb3 c0 hr hsz
   go_loopg [] ((dir Lm).length) (fun q wx => ∃ M lf cnt, cnt ≤ q ∧ Hid (Cr3 Lm M lf wx) ∧ Hid (RngO wx K.m r (dir (M ++ todoL Lm lf)) lf cnt) ∧ Hid (Fr (K.wfoot d) w wx) ∧ Hid (wx.heap[d]? = some (.cells K.cells 73 (0, 0))))
   case atStart => exact ⟨[], _, _, Nat.le_refl _, HC3.out, HR3.out, HF3.out, HD3.out⟩
   case round =>
    clear HR3 HC3 HF3 HD3
    obtain ⟨M, lf, cnt, hq, hC, hR, hF, hD⟩ := hrel
    go_wp2_with (at_next; refine wpList_next_o rfl _ rfl K.m r (dir (M ++ todoL Lm lf)) lf cnt rfl hR.out ?_ ?_)
    ·intro hno
     have HDone := Lib.hid (crash_done (ks := ks) HH.out (by rw [HLm.out, HKa.out]) hno hC.out hR.out hF.out hD.out)
     rw [← HKa.out, ← HZ.out] at HDone
     have f1 := free_at hD.out 1
     have q1 : wr.cell? ⟨d, 1, none⟩ = some (.bool K.on) := cell_at hD.out 1
     have hs1 := set_at hD.out 1 (.bool false)
     have HA : Hid (Calls Tryz.prog 62 #[.pointer (some ⟨d, 0, none⟩), .int .i64 (-1), .slice none 0 0] (wr.setCell ⟨d, 1, none⟩ (.bool false)) fun e w' => e = .returned (.tuple #[]) ∧ w' = (((wr.setCell ⟨d, 1, none⟩ (.bool false)).setCell ⟨d, 4, none⟩ (.bool false)).setCell ⟨d, 5, none⟩ (.int .i64 0)).setCell ⟨d, 6, none⟩ (.slice none 0 0)) :=
      arm_neg _ d (-1) (.slice none 0 0) (.bool K.armed) (.int .i64 K.left) K.kv (cell_at hs1 4) (cell_at hs1 5) (cell_at hs1 6) (free_at hs1 4) (free_at hs1 5) (free_at hs1 6) (by decide)
     clear hs1 hno hC hR hF hD hq
     go_wp2_with (go_at_call 62; (with_reducible refine HA.out.mono ?_); rintro e w' ⟨rfl, rfl⟩)
     go_ret
     exact ⟨_, _, rfl, HDone.out⟩
    ·intro s fb w4 cnt4 hs hm hl hR4 hlt4 ho4 hs4 hen
     obtain ⟨F, hFa, rfl⟩ := dir_mem hm
     have hFm2 : (s.data.toList, F) ∈ todoL Lm lf := by
      rcases List.mem_append.1 hFa with hx | hx
      ·have h1 := (hC.out.org _ hx).1
       rw [hl] at h1
       cases h1
      ·exact hx
     have hFL : (s.data.toList, F) ∈ Lm := (List.mem_filter.1 hFm2).1
     have hC4 := hC.out.move ho4 hR.out.notCells.1
     have hF4 : FileAt w4 F := hC4.at' _ (List.mem_append_right _ hFm2)
     have hFr4 : Fr (K.wfoot d) w w4 := fr_onlyNew hF.out ho4 HSz.out
     have hD4 : w4.heap[d]? = some (.cells K.cells 73 (0, 0)) := ho4.keep hD.out (fun e => hR.out.notCells.1 _ _ (e ▸ hD.out))
     have hmne : K.m ≠ none := by
      intro e
      rcases hR.out.map with ⟨_, h2⟩ | ⟨b, D, h2, _⟩
      ·rw [h2] at hm; simp at hm
      ·rw [e] at h2; cases h2
     obtain ⟨bb, hbb⟩ : ∃ bb, bb = (F.stays || decide (0 < F.left)) := ⟨_, rfl⟩
     have HCr : Hid (Calls Tryz.prog 81 #[.pointer (some ⟨F.b, 0, none⟩)] w4 fun e w' => e = .returned (.bool bb) ∧ ∃ sl, FileAt w' (F.tear.sync.cut sl F.left) ∧ sl.ownBlock = F.sl.ownBlock ∧ Fr F.foot w4 w') := by
      rw [hbb]
      exact crash_walk hF4 (HOk.out _ hFL) (HKp.out _ hFL)
     have hfd : ¬ F.foot d := by
      intro hk
      obtain ⟨c, t, h1, h2⟩ := hF4.kinds d hk
      rw [hD4] at h1
      simp at h1
      rcases h2 with rfl | rfl | rfl
      ·exact absurd h1.2 (by decide)
      ·exact absurd h1.2 (by decide)
      ·exact absurd h1.2 (by decide)
     have hnn := hC.out.dirNames HNm.out
     have HBb := Lib.hid hbb
     have HC4 := Lib.hid hC4
     have HFr4 := Lib.hid hFr4
     have HD4 := Lib.hid hD4
     have HF4 := Lib.hid hF4
     have HR4 := Lib.hid hR4
     have HFL := Lib.hid hFL
     have HFd := Lib.hid hfd
     have HNn := Lib.hid hnn
     have HMne := Lib.hid hmne
     have HL1 := Lib.hid hl
     have HS1 := Lib.hid hs
     have hq4 : cnt4 < gk := by omega
     clear hm hl hR4 hlt4 ho4 hs4 hFa hFm2 hFL hC4 hF4 hFr4 hD4 hmne hbb hfd hnn hs hC hR hF hD hq
     cases bb
     ·have HG : Hid (∀ w5, Fr F.foot w4 w5 → w5.cell? ⟨d, 0, none⟩ = some (.map K.m) ∧ RngO w5 K.m r (dir (M ++ todoL Lm lf)) (fun k => lf k && !(k == s.data.toList)) cnt4 ∧ Cr3 Lm M (fun k => lf k && !(k == s.data.toList)) w5 ∧ Fr (K.wfoot d) w w5 ∧ w5.heap[d]? = some (.cells K.cells 73 (0, 0))) := fun w5 hf5 =>
       ⟨cell_at (hf5.keep HD4.out HFd.out) 0, HR4.out.file HF4.out hf5, HC4.out.drop HNm.out HAp.out HFL.out HL1.out hf5 (by unfold crP; rw [← HBb.out]; rfl), HFr4.out.trans (hf5.mono fun k _ hk => HFt.out _ HFL.out k hk), hf5.keep HD4.out HFd.out⟩
      go_wp2_with (first
       | (go_at_call 81; (with_reducible refine HCr.out.mono ?_); rintro e w5 ⟨rfl, sl, hF5, hsl, hf5⟩; obtain ⟨c0, hR5, hC5, hFr5, hD5⟩ := HG.out w5 hf5; have HR5 := Lib.hid hR5; have HC5 := Lib.hid hC5; have HFr5 := Lib.hid hFr5; have HD5 := Lib.hid hD5; clear hR5 hC5 hFr5 hD5 hF5 hsl hf5)
       | (at_delete; refine wpList_delete_o rfl _ _ rfl K.m r (dir (M ++ todoL Lm lf)) (fun k => lf k && !(k == s.data.toList)) cnt4 HNn.out rfl HR5.out HMne.out s HS1.out rfl ?_; intro b5 w6 cnt6 hb5 hR6 hle6 ho6 hs6))
      have hnc := HR5.out.notCells.2 b5 hb5
      have HC6 : Hid (Cr3 Lm M (fun k => lf k && !(k == s.data.toList)) w6) := HC5.out.move ho6 hnc
      have HD6 : Hid (w6.heap[d]? = some (.cells K.cells 73 (0, 0))) := ho6.keep HD5.out (fun e => hnc _ _ (e ▸ HD5.out))
      have HFr6 : Hid (Fr (K.wfoot d) w w6) := HFr5.out.trans (.only ho6 (.inr (.inl hb5)))
      have HR6 : Hid (RngO w6 K.m r (dir (M ++ todoL Lm (fun k => lf k && !(k == s.data.toList)))) (fun k => lf k && !(k == s.data.toList)) cnt6) := by
       have e : (fun k => (lf k && !(k == s.data.toList)) && !(k == s.data.toList)) = fun k => lf k && !(k == s.data.toList) := by
        funext k
        cases lf k <;> cases (k == s.data.toList) <;> rfl
       have h1 := hR6
       simp only [e] at h1
       exact h1.perm (HC4.out.dirDrop HNm.out HFL.out HL1.out)
      have hq6 : cnt6 < gk := by omega
      clear hR6 hle6 ho6 hs6 hnc hb5 c0
      go_wp2
      go_roundg (cnt6)
      case measure => exact hq6
      case rel => exact ⟨M, _, cnt6, Nat.le_refl _, HC6.out, HR6.out, HFr6.out, HD6.out⟩
     ·go_wp2_with (go_at_call 81; (with_reducible refine HCr.out.mono ?_); rintro e w5 ⟨rfl, sl, hF5, hsl, hf5⟩)
      have hok' : FileOk (F.tear.sync.cut sl F.left) := Fl.cut_ok _ (Fl.sync_ok _ (F.tear_ok (HOk.out _ HFL.out) (HKp.out _ HFL.out))) _ _
      have hfoot : ∀ k, (F.tear.sync.cut sl F.left).foot k → F.foot k := by
       rintro k (hk | hk | ⟨x, hx, _⟩)
       ·exact .inl hk
       ·exact .inr (.inl (hsl ▸ hk))
       ·have hx2 : x ∈ ([] : List Wr).filter (fun x => decide (x.pos < F.left)) := hx
        simp at hx2
      have HR5 : Hid (RngO w5 K.m r (dir ((s.data.toList, F.tear.sync.cut sl F.left) :: M ++ todoL Lm (fun k => lf k && !(k == s.data.toList)))) (fun k => lf k && !(k == s.data.toList)) cnt4) := (HR4.out.file HF4.out hf5).perm (Cr3.dirKeep HNm.out HFL.out HL1.out rfl)
      have HC5 : Hid (Cr3 Lm ((s.data.toList, F.tear.sync.cut sl F.left) :: M) (fun k => lf k && !(k == s.data.toList)) w5) := HC4.out.keep HNm.out HAp.out HFL.out HL1.out hf5 hF5 hok' rfl hfoot (by unfold crP; rw [← HBb.out, if_pos rfl, Fl.crash_abs _ (HOk.out _ HFL.out)])
      have HFr5 : Hid (Fr (K.wfoot d) w w5) := HFr4.out.trans (hf5.mono fun k _ hk => HFt.out _ HFL.out k hk)
      have HD5 : Hid (w5.heap[d]? = some (.cells K.cells 73 (0, 0))) := hf5.keep HD4.out HFd.out
      clear hF5 hsl hf5 hok' hfoot
      go_wp2
      go_roundg (cnt4)
      case measure => exact hq4
      case rel => exact ⟨_, _, cnt4, Nat.le_refl _, HC5.out, HR5.out, HFr5.out, HD5.out⟩
end Go.Proofs.YtbkngnjkaledlaaGreat.P4
