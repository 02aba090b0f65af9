/-
  Texts of the proof of SaidKeeps8, side by side: Dk18, Dk20.
-/
import Derived.Test.YtbkngnjkaledlaaGreatMk14
/-
  Package disk: On, Arm; a crash: how much is kept of each write. (Disk, part 18.)
-/
namespace Go.Proofs.YtbkngnjkaledlaaGreat.P4
open Go Go.RowKit Go.Lib Go.Maps Go.ChangeMaps Go.MapKept Go.Proofs.YtbkngnjkaledlaaGreat.P3

theorem on_nil (w : World) : Calls Tryz.prog 31 #[.pointer none] w fun e w' => e = .returned (.bool false) ∧ w = w' := by
  go_enter Tryz.func31, Tryz.ntmps31
  go_wp2
  go_ret
  exact ⟨rfl, rfl⟩
theorem on_any (w : World) (d : Nat) (b : Bool) (c1 : w.cell? ⟨d, 1, none⟩ = some (.bool b)) : Calls Tryz.prog 31 #[.pointer (some ⟨d, 0, none⟩)] w fun e w' => e = .returned (.bool b) ∧ w = w' := by
  go_enter Tryz.func31, Tryz.ntmps31
  go_wp2
  go_ret
  exact ⟨rfl, rfl⟩
theorem arm_nil (w : World) (n : Int) (v : Value) : Calls Tryz.prog 62 #[.pointer none, .int .i64 n, v] w fun e w' => e = .returned (.tuple #[]) ∧ w = w' := by
  go_enter Tryz.func62, Tryz.ntmps62
  go_wp2
  first | refine bodyPost_ret (results_none rfl _ _ _) rfl ?_ | (simp only [Exit.inBlock, Exit.then]; refine bodyPost_ret (results_none rfl _ _ _) rfl ?_)
  exact ⟨rfl, rfl⟩
theorem arm_neg (w : World) (d : Nat) (n : Int) (v : Value) (a b c : Value) (c4 : w.cell? ⟨d, 4, none⟩ = some a) (c5 : w.cell? ⟨d, 5, none⟩ = some b) (c6 : w.cell? ⟨d, 6, none⟩ = some c)
    (f4 : w.frozen? ⟨d, 4, none⟩ = false) (f5 : w.frozen? ⟨d, 5, none⟩ = false) (f6 : w.frozen? ⟨d, 6, none⟩ = false) (hn : n < 0) :
    Calls Tryz.prog 62 #[.pointer (some ⟨d, 0, none⟩), .int .i64 n, v] w fun e w' => e = .returned (.tuple #[]) ∧ w' = ((w.setCell ⟨d, 4, none⟩ (.bool false)).setCell ⟨d, 5, none⟩ (.int .i64 0)).setCell ⟨d, 6, none⟩ (.slice none 0 0) := by
  have k1 : ¬ 0 ≤ n := by omega
  go_enter Tryz.func62, Tryz.ntmps62
  go_wp2
  go_end0
  exact ⟨rfl, rfl⟩

/-- v reads as the ints ks, in a block that is none of S -/
def IntsR (S : Nat → Prop) (w : World) (v : Value) (ks : List Int) : Prop :=
  (∃ a c, v = .slice a 0 c ∧ ks = []) ∨ ∃ g o c, v = .slice (some ⟨g, o, none⟩) ks.length c ∧ g < w.heap.size ∧ ¬ S g ∧ ∀ (j : Nat) (x : Int), ks[j]? = some x → w.cell? ⟨g, o + j, none⟩ = some (.int .i64 x)
theorem IntsR.fr {S : Nat → Prop} {w w' : World} {v : Value} {ks : List Int} (h : IntsR S w v ks) (hf : Fr S w w') : IntsR S w' v ks := by
  rcases h with h | ⟨g, o, c, rfl, h1, h2, h3⟩
  · exact .inl h
  · refine .inr ⟨g, o, c, rfl, Nat.lt_of_lt_of_le h1 hf.size, h2, fun j x hj => ?_⟩
    rw [(heap_ext (hf.block g h1 h2) (o + j)).1]
    exact h3 j x hj

/-- how many of these writes are not kept whole -/
def lostN (κ : Nat → Nat) (l : List Wr) : Nat := (l.filter (fun x => decide (κ x.turn < 256))).length
theorem lost_snoc (κ : Nat → Nat) (l : List Wr) (x : Wr) : lostN κ (l ++ [x]) = lostN κ l + if κ x.turn < 256 then 1 else 0 := by
  unfold lostN
  rw [List.filter_append, List.length_append]
  congr 1
  by_cases h : κ x.turn < 256
  · rw [if_pos h, List.filter_cons_of_pos (by simpa using h)]; rfl
  · rw [if_neg h, List.filter_cons_of_neg (by simpa using h)]; rfl

/-- the disk's own blocks that calls write -/
def Dk.wfoot (K : Dk) (d k : Nat) : Prop := k = d ∨ K.m = some k ∨ ∃ p ∈ K.files, p.2.foot k

/-- the first loop's state: i of the writes are marked -/
structure Mk (w : World) (L : Files) (κ : Nat → Nat) (ys : List Wr) (i : Nat) (wr : World) : Prop where
  at' : FilesAt wr (markL κ ((ys.take i).map (·.turn)) L)
  fr : Fr (fun k => ∃ x ∈ allW L, x.b = k) w wr

theorem Mk.step {w wr : World} {L : Files} {κ : Nat → Nat} {ys : List Wr} {i : Nat} {x : Wr} (h : Mk w L κ ys i wr) (hap : L.Pairwise (fun p q => ∀ k, p.2.foot k → ¬ q.2.foot k)) (hnd : ((allW L).map (·.turn)).Nodup) (hp : ys.Perm (allW L)) (hs : ys.Pairwise (fun x y => x.turn < y.turn)) (hx : ys[i]? = some x) :
    Mk w L κ ys (i + 1) (wr.setCell ⟨x.b, 3, none⟩ (.int .i64 (κ x.turn : Nat))) := by
  have hxm : x ∈ allW L := hp.mem_iff.1 (List.mem_of_getElem? hx)
  have ht : ys.take (i + 1) = ys.take i ++ [x] := by rw [List.take_add_one, hx]; rfl
  have hT : x.turn ∉ (ys.take i).map (·.turn) := by
    intro hm
    obtain ⟨y, hy, e⟩ := List.mem_map.1 hm
    obtain ⟨hi, hxe⟩ := List.getElem?_eq_some_iff.1 hx
    have e2 : ys = ys.take i ++ x :: ys.drop (i + 1) := by rw [← hxe, List.getElem_cons_drop, List.take_append_drop]
    rw [e2, List.pairwise_append] at hs
    have := hs.2.2 y hy x (by simp)
    omega
  refine ⟨?_, h.fr.trans (.only ((Only.refl x.b wr).setCell 3 _) ⟨x, hxm, rfl⟩)⟩
  rw [ht, List.map_append]
  exact mark_step h.at' hap hnd hxm hT
theorem Mk.skip {w wr : World} {L : Files} {κ : Nat → Nat} {ys : List Wr} {i : Nat} {x : Wr} (h : Mk w L κ ys i wr) (hx : ys[i]? = some x) (h0 : κ x.turn = 0) : Mk w L κ ys (i + 1) wr := by
  have ht : ys.take (i + 1) = ys.take i ++ [x] := by rw [List.take_add_one, hx]; rfl
  refine ⟨?_, h.fr⟩
  rw [ht, List.map_append]
  show FilesAt wr (markL κ ((ys.take i).map (·.turn) ++ [x.turn]) L)
  rw [mark_zero κ _ _ _ h0]
  exact h.at'
/-- what stands in the write's block -/
theorem Mk.cell {w wr : World} {L : Files} {κ : Nat → Nat} {ys : List Wr} {i : Nat} {x : Wr} (h : Mk w L κ ys i wr) (hp : ys.Perm (allW L)) (hs : ys.Pairwise (fun x y => x.turn < y.turn)) (hx : ys[i]? = some x) :
    ∃ c : Array Value, wr.heap[x.b]? = some (.cells c 123 (0, 0)) ∧ c[3]? = some (.int .i64 0) := by
  have hxm : x ∈ allW L := hp.mem_iff.1 (List.mem_of_getElem? hx)
  obtain ⟨p, hpL, hxw⟩ := allW_mem.1 hxm
  have hF : FileAt wr (markF κ ((ys.take i).map (·.turn)) p.2) := h.at' _ (List.mem_map.2 ⟨p, hpL, rfl⟩)
  obtain ⟨a, b, hxa⟩ := seg_mem hF.seg (markW κ ((ys.take i).map (·.turn)) x) (List.mem_map.2 ⟨x, hxw, rfl⟩)
  refine ⟨_, hxa, ?_⟩
  have hT : x.turn ∉ (ys.take i).map (·.turn) := by
    intro hm
    obtain ⟨y, hy, e⟩ := List.mem_map.1 hm
    obtain ⟨hi, hxe⟩ := List.getElem?_eq_some_iff.1 hx
    have e2 : ys = ys.take i ++ x :: ys.drop (i + 1) := by rw [← hxe, List.getElem_cons_drop, List.take_append_drop]
    rw [e2, List.pairwise_append] at hs
    have := hs.2.2 y hy x (by simp)
    omega
  show some (Value.int .i64 ((markW κ ((ys.take i).map (·.turn)) x).kept : Nat)) = _
  unfold markW Wr.keep
  simp only [if_neg hT]
  rfl

end Go.Proofs.YtbkngnjkaledlaaGreat.P4

/-
  Package disk: a crash: file by file, in words of lists. (Disk, part 20.)
-/
namespace Go.Proofs.YtbkngnjkaledlaaGreat.P4
open Go Go.RowKit Go.Lib Go.Maps Go.ChangeMaps Go.MapKept Go.Proofs.YtbkngnjkaledlaaGreat.P3

/-- a file behind a crash: what is left, if anything -/
def crP (p : List UInt8 × Fl) : Option (List UInt8 × AF) := if (p.2.stays || decide (0 < p.2.left)) = true then some (p.1, p.2.abs.crash (p.2.ws.map Wr.trip)) else none
def absP (p : List UInt8 × Fl) : List UInt8 × AF := (p.1, p.2.abs)
def todoL (L : Files) (lf : List UInt8 → Bool) : Files := L.filter (fun p => lf p.1)

theorem mark_congr (κ : Nat → Nat) {T T' : List Nat} (h : ∀ t, t ∈ T ↔ t ∈ T') (L : Files) : markL κ T L = markL κ T' L := by
  unfold markL markF
  refine List.map_congr_left (fun p _ => ?_)
  have : p.2.ws.map (markW κ T) = p.2.ws.map (markW κ T') := List.map_congr_left (fun x _ => by
    unfold markW
    simp only [h])
  rw [this]
theorem mark_dir (κ : Nat → Nat) (T : List Nat) (L : Files) : dir (markL κ T L) = dir L := by
  unfold dir markL
  rw [List.map_map]
  rfl
theorem mark_names (κ : Nat → Nat) (T : List Nat) (L : Files) : (markL κ T L).map (·.1) = L.map (·.1) := by
  unfold markL
  rw [List.map_map]
  rfl
theorem lst_mark (κ : Nat → Nat) (T : List Nat) : ∀ (l : List Wr) (p : Option Nat), lst p (l.map (markW κ T)) = lst p l
  | [], _ => rfl
  | x :: r, _ => lst_mark κ T r _
theorem lastAt_mark (κ : Nat → Nat) (T : List Nat) (l : List Wr) (i : Nat) : lastAt (l.map (markW κ T)) i = lastAt l i := by
  unfold lastAt
  rw [List.filter_map]
  have : ((fun x : Wr => x.pos == i) ∘ markW κ T) = fun x => x.pos == i := rfl
  rw [this, lst_mark]
theorem mark_ok {F : Fl} (κ : Nat → Nat) (T : List Nat) (h : FileOk F) : FileOk (markF κ T F) := by
  refine ⟨fun i s hs => ?_, ?_, fun x hx => ?_, fun x hx => ?_, h.now, h.safe, fun i s hs hno => ?_, h.nsle, h.made, h.room, ?_, ?_⟩
  · show s.top = lastAt (F.ws.map _) i
    rw [lastAt_mark]
    exact h.tops i s hs
  · intro l x r e
    have e' : F.ws.map (markW κ T) = l ++ x :: r := e
    obtain ⟨l0, r0, e1, e2, e3⟩ := List.map_eq_append_iff.1 e'
    obtain ⟨x0, r1, e4, e5, e6⟩ := List.map_eq_cons_iff.1 e3
    subst e2 e5 e6
    rw [lastAt_mark]
    exact h.unders l0 x0 r1 (by rw [e1, e4])
  · obtain ⟨y, hy, rfl⟩ := List.mem_map.1 hx
    exact h.pos y hy
  · obtain ⟨y, hy, rfl⟩ := List.mem_map.1 hx
    exact h.data y hy
  · exact h.clean i s hs (fun x hx => hno (markW κ T x) (List.mem_map.2 ⟨x, hx, rfl⟩))
  · show (F.ws.map _).Pairwise _
    rw [List.pairwise_map]
    exact h.turns
  · show (F.ws.map _).length ≤ _
    rw [List.length_map]
    exact h.few
theorem mark_kept {F : Fl} {κ : Nat → Nat} (hκ : ∀ t, κ t ≤ 256) (T : List Nat) : ∀ x ∈ (markF κ T F).ws, x.kept ≤ 256 := by
  intro x hx
  obtain ⟨y, hy, rfl⟩ := List.mem_map.1 hx
  unfold markW Wr.keep
  simp only
  split
  · exact hκ _
  · omega

theorem todo_step {n : List UInt8} {F : Fl} {lf : List UInt8 → Bool} (hlf : lf n = true) : ∀ {L : Files}, (L.map (·.1)).Nodup → (n, F) ∈ L → (todoL L lf).Perm ((n, F) :: todoL L (fun k => lf k && !(k == n))) := by
  intro L
  induction L with
  | nil => intro _ h; simp at h
  | cons p r ih =>
    intro hn hm
    rw [List.map_cons, List.nodup_cons] at hn
    unfold todoL at *
    by_cases e : p.1 = n
    · have hp : p = (n, F) := by
        rcases List.mem_cons.1 hm with e2 | h2
        · exact e2.symm
        · exact absurd (List.mem_map.2 ⟨_, h2, e.symm⟩) hn.1
      subst hp
      have h1 : r.filter (fun p => lf p.1 && !(p.1 == n)) = r.filter (fun p => lf p.1) := by
        apply List.filter_congr
        intro q hq
        have : q.1 ≠ n := fun e => hn.1 (List.mem_map.2 ⟨q, hq, e⟩)
        simp [this]
      rw [List.filter_cons_of_pos (by simpa using hlf), List.filter_cons_of_neg (by simp), h1]
    · have hm' : (n, F) ∈ r := by
        rcases List.mem_cons.1 hm with e2 | h2
        · exact absurd (by rw [← e2]) e
        · exact h2
      have ih := ih hn.2 hm'
      by_cases hl : lf p.1 = true
      · rw [List.filter_cons_of_pos (by simpa using hl), List.filter_cons_of_pos (by simp [hl, e])]
        exact (ih.cons p).trans (List.Perm.swap _ _ _)
      · rw [List.filter_cons_of_neg (by simpa using hl), List.filter_cons_of_neg (by simp [hl])]
        exact ih
theorem todo_none {L : Files} {lf : List UInt8 → Bool} (h : ∀ k, lf k = false) : todoL L lf = [] := List.filter_eq_nil_iff.2 (fun p _ => by simp [h])
theorem todo_all {L : Files} (hn : (L.map (·.1)).Nodup) : todoL L (fun k => (lk (dir L) k).isSome) = L := by
  refine List.filter_eq_self.2 (fun p hp => ?_)
  have : (p.1, p.2.b) ∈ dir L := List.mem_map.2 ⟨p, hp, rfl⟩
  have h2 := lk_mem (L := dir L) (by rw [dir_names]; exact hn) this
  simp only [h2]
  rfl
theorem dir_app (L M : Files) : dir (L ++ M) = dir L ++ dir M := by simp [dir]
theorem dir_perm {L M : Files} (h : L.Perm M) : (dir L).Perm (dir M) := h.map _

/-- the second loop's state: the files of M are behind the crash, those of which lf tells are still to come -/
structure Cr3 (L M : Files) (lf : List UInt8 → Bool) (wr : World) : Prop where
  at' : FilesAt wr (M ++ todoL L lf)
  org : ∀ p ∈ M, lf p.1 = false ∧ ∃ F, (p.1, F) ∈ L ∧ ∀ k, p.2.foot k → F.foot k
  mok : ∀ p ∈ M, FileOk p.2 ∧ p.2.ws = []
  names : (M.map (·.1)).Nodup
  abs : (M.map absP).Perm ((doneL L lf).filterMap crP)

theorem Cr3.others {L M : Files} {lf : List UInt8 → Bool} {wr w' : World} {n : List UInt8} {F : Fl} (h : Cr3 L M lf wr) (hap : L.Pairwise (fun p q => ∀ k, p.2.foot k → ¬ q.2.foot k)) (hm : (n, F) ∈ L) (hlf : lf n = true) (hf : Fr F.foot wr w') :
    FilesAt w' (M ++ todoL L (fun k => lf k && !(k == n))) := by
  intro p hp
  rcases List.mem_append.1 hp with hp | hp
  · obtain ⟨h1, G, h2, h3⟩ := h.org p hp
    have hne : (p.1, G) ≠ (n, F) := by
      intro e
      simp only [Prod.mk.injEq] at e
      rw [e.1, hlf] at h1
      cases h1
    exact (h.at' p (List.mem_append_left _ hp)).fr hf (fun k hk => files_pair hap h2 hm hne k (h3 k hk))
  · obtain ⟨h1, h2⟩ := List.mem_filter.1 hp
    have h3 : lf p.1 = true ∧ p.1 ≠ n := by simpa using h2
    have hne : p ≠ (n, F) := fun e => h3.2 (by rw [e])
    exact (h.at' p (List.mem_append_right _ (List.mem_filter.2 ⟨h1, h3.1⟩))).fr hf (files_pair hap h1 hm hne)
theorem Cr3.keep {L M : Files} {lf : List UInt8 → Bool} {wr w' : World} {n : List UInt8} {F F' : Fl} (h : Cr3 L M lf wr) (hn : (L.map (·.1)).Nodup) (hap : L.Pairwise (fun p q => ∀ k, p.2.foot k → ¬ q.2.foot k)) (hm : (n, F) ∈ L) (hlf : lf n = true) (hf : Fr F.foot wr w')
    (hF : FileAt w' F') (hok : FileOk F') (hws : F'.ws = []) (hfoot : ∀ k, F'.foot k → F.foot k) (hcr : crP (n, F) = some (n, F'.abs)) : Cr3 L ((n, F') :: M) (fun k => lf k && !(k == n)) w' := by
  refine ⟨?_, ?_, ?_, ?_, ?_⟩
  · intro p hp
    rcases List.mem_cons.1 hp with rfl | hp
    · exact hF
    · exact h.others hap hm hlf hf p hp
  · intro p hp
    rcases List.mem_cons.1 hp with rfl | hp
    · exact ⟨by simp, F, hm, hfoot⟩
    · obtain ⟨h1, h2⟩ := h.org p hp
      exact ⟨by simp [h1], h2⟩
  · intro p hp
    rcases List.mem_cons.1 hp with rfl | hp
    · exact ⟨hok, hws⟩
    · exact h.mok p hp
  · rw [List.map_cons, List.nodup_cons]
    refine ⟨fun hx => ?_, h.names⟩
    obtain ⟨p, hp, e⟩ := List.mem_map.1 hx
    have := (h.org p hp).1
    rw [e] at this
    rw [this] at hlf; cases hlf
  · have h1 := (done_step hlf hn hm).filterMap crP
    rw [List.filterMap_cons_some hcr] at h1
    rw [List.map_cons]
    exact (h.abs.cons _).trans h1.symm
theorem Cr3.drop {L M : Files} {lf : List UInt8 → Bool} {wr w' : World} {n : List UInt8} {F : Fl} (h : Cr3 L M lf wr) (hn : (L.map (·.1)).Nodup) (hap : L.Pairwise (fun p q => ∀ k, p.2.foot k → ¬ q.2.foot k)) (hm : (n, F) ∈ L) (hlf : lf n = true) (hf : Fr F.foot wr w')
    (hcr : crP (n, F) = none) : Cr3 L M (fun k => lf k && !(k == n)) w' := by
  refine ⟨h.others hap hm hlf hf, fun p hp => ?_, h.mok, h.names, ?_⟩
  · obtain ⟨h1, h2⟩ := h.org p hp
    exact ⟨by simp [h1], h2⟩
  · have h1 := (done_step hlf hn hm).filterMap crP
    rw [List.filterMap_cons_none hcr] at h1
    exact h.abs.trans h1.symm
/-- what kinds of blocks a file has -/
theorem FileAt.kinds {w : World} {F : Fl} (h : FileAt w F) : ∀ k, F.foot k → ∃ c t, w.heap[k]? = some (.cells c t (0, 0)) ∧ (t = 148 ∨ t = 143 ∨ t = 123) := by
  rintro k (rfl | hk | ⟨x, hx, rfl⟩)
  · exact ⟨_, _, h.blk, .inl rfl⟩
  · rcases h.row.2 with ⟨h0, _⟩ | ⟨g, cap, cur, h0, _, h2, _⟩
    · rw [h0] at hk; cases hk
    · rw [h0] at hk
      obtain rfl : g = k := by simpa [Value.ownBlock] using hk
      exact ⟨_, _, h2, .inr (.inl rfl)⟩
  · obtain ⟨_, _, hx'⟩ := seg_mem h.seg x hx
    exact ⟨_, _, hx', .inr (.inr rfl)⟩
theorem Cr3.move {L M : Files} {lf : List UInt8 → Bool} {wr w' : World} (h : Cr3 L M lf wr) {b : Nat} (ho : Only b wr w') (hb : ∀ c t, wr.heap[b]? ≠ some (.cells c t (0, 0))) : Cr3 L M lf w' :=
  { h with at' := fun p hp => (h.at' p hp).fr (Fr.only (S := (· = b)) ho rfl) (fun k hk e => by
      obtain ⟨c, t, h1, _⟩ := (h.at' p hp).kinds k hk
      rw [e] at h1
      exact hb c t h1) }
theorem RngO.file {w w' : World} {m : Option Nat} {r : Nat} {L : Dir} {lf : List UInt8 → Bool} {cnt : Nat} (h : RngO w m r L lf cnt) {F : Fl} (hF : FileAt w F) (hf : Fr F.foot w w') : RngO w' m r L lf cnt := by
  rcases h with ⟨h1, h2, h3⟩ | ⟨b, rfl, n, D, left, ⟨es, clock, since, seen, c0, h1, h2, h3, h4, h5, rest⟩, hl, he⟩
  · refine .inl ⟨h1, hf.keep h2 (fun hk => ?_), h3⟩
    obtain ⟨c, t, h4, _⟩ := hF.kinds r hk
    rw [h2] at h4; cases h4
  · refine .inr ⟨b, rfl, n, D, left, ⟨es, clock, since, seen, c0, hf.keep h1 (fun hk => ?_), h2, h3, h4, hf.keep h5 (fun hk => ?_), rest⟩, hl, he⟩
    · obtain ⟨c, t, h6, _⟩ := hF.kinds b hk
      rw [h1] at h6; cases h6
    · obtain ⟨c, t, h6, _⟩ := hF.kinds r hk
      rw [h5] at h6; cases h6
theorem RngO.notCells {w : World} {m : Option Nat} {r : Nat} {L : Dir} {lf : List UInt8 → Bool} {cnt : Nat} (h : RngO w m r L lf cnt) : (∀ c t, w.heap[r]? ≠ some (.cells c t (0, 0))) ∧ ∀ b, m = some b → ∀ c t, w.heap[b]? ≠ some (.cells c t (0, 0)) := by
  rcases h with ⟨h1, h2, h3⟩ | ⟨b, rfl, n, D, left, ⟨es, clock, since, seen, c0, h1, h2, h3, h4, h5, rest⟩, hl, he⟩
  · exact ⟨fun c t e => (by rw [h2] at e; cases e), fun b e => by rw [h1] at e; cases e⟩
  · refine ⟨fun c t e => (by rw [h5] at e; cases e), fun b' e c t e2 => ?_⟩
    obtain rfl : b = b' := by simpa using e
    rw [h1] at e2; cases e2
theorem fr_onlyNew {S : Nat → Prop} {w wx wy : World} {r : Nat} (h : Fr S w wx) (ho : Only r wx wy) (hr : w.heap.size ≤ r) : Fr S w wy :=
  ⟨ho.os.trans h.os, ho.tape.trans h.tape, ho.output.trans h.output, Nat.le_trans h.size ho.size, fun k hk hs => (ho.block k (Nat.lt_of_lt_of_le hk h.size) (by omega)).trans (h.block k hk hs)⟩
theorem del_cons {n : List UInt8} {b : Nat} {X : Dir} (h : n ∉ X.map (·.1)) : delL ((n, b) :: X) n = X := by
  unfold delL
  rw [List.filter_cons_of_neg (by simp)]
  exact List.filter_eq_self.2 (fun p hp => by
    have : p.1 ≠ n := fun e => h (List.mem_map.2 ⟨p, hp, e⟩)
    simpa using this)
theorem Cr3.dirKeep {L M : Files} {lf : List UInt8 → Bool} {n : List UInt8} {F F' : Fl} (hn : (L.map (·.1)).Nodup) (hm : (n, F) ∈ L) (hlf : lf n = true) (hb : F'.b = F.b) : (dir (M ++ todoL L lf)).Perm (dir ((n, F') :: M ++ todoL L (fun k => lf k && !(k == n)))) := by
  have h1 := dir_perm (todo_step hlf hn hm)
  rw [dir_app]
  refine (h1.append_left _).trans ?_
  have e : dir ((n, F) :: todoL L (fun k => lf k && !(k == n))) = (n, F.b) :: dir (todoL L (fun k => lf k && !(k == n))) := rfl
  rw [e]
  refine List.perm_middle.trans ?_
  have e2 : dir ((n, F') :: M ++ todoL L (fun k => lf k && !(k == n))) = (n, F'.b) :: (dir M ++ dir (todoL L (fun k => lf k && !(k == n)))) := by simp [dir]
  rw [e2, hb]
theorem Cr3.dirDrop {L M : Files} {lf : List UInt8 → Bool} {wr : World} {n : List UInt8} {F : Fl} (h : Cr3 L M lf wr) (hn : (L.map (·.1)).Nodup) (hm : (n, F) ∈ L) (hlf : lf n = true) : (delL (dir (M ++ todoL L lf)) n).Perm (dir (M ++ todoL L (fun k => lf k && !(k == n)))) := by
  have h1 := dir_perm (todo_step hlf hn hm)
  have h2 : (dir (M ++ todoL L lf)).Perm ((n, F.b) :: (dir (M ++ todoL L (fun k => lf k && !(k == n))))) := by
    rw [dir_app, dir_app]
    exact (h1.append_left _).trans List.perm_middle
  have h3 := h2.filter (fun p : List UInt8 × Nat => p.1 != n)
  have h4 : n ∉ (dir (M ++ todoL L (fun k => lf k && !(k == n)))).map (·.1) := by
    rw [dir_names, List.map_append, List.mem_append]
    rintro (hx | hx)
    · obtain ⟨p, hp, e⟩ := List.mem_map.1 hx
      have := (h.org p hp).1
      rw [e, hlf] at this
      cases this
    · obtain ⟨p, hp, e⟩ := List.mem_map.1 hx
      have := (List.mem_filter.1 hp).2
      rw [e] at this
      simp at this
  have h5 := del_cons (b := F.b) h4
  unfold delL at h5 ⊢
  rw [h5] at h3
  exact h3
theorem Cr3.dirNames {L M : Files} {lf : List UInt8 → Bool} {wr : World} (h : Cr3 L M lf wr) (hn : (L.map (·.1)).Nodup) : ((dir (M ++ todoL L lf)).map (·.1)).Nodup := by
  rw [dir_names, List.map_append, List.nodup_append]
  refine ⟨h.names, (List.filter_sublist.map _).nodup hn, fun a ha b hb e => ?_⟩
  obtain ⟨p, hp, rfl⟩ := List.mem_map.1 ha
  obtain ⟨q, hq, rfl⟩ := List.mem_map.1 hb
  have h1 := (h.org p hp).1
  have h2 := (List.mem_filter.1 hq).2
  rw [e, h2] at h1
  cases h1

end Go.Proofs.YtbkngnjkaledlaaGreat.P4
