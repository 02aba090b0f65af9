/-
  Texts of the proof of SaidKeeps8, side by side: Dk23, Dk24.
-/
import Derived.Test.YtbkngnjkaledlaaGreatMk17
/-
  Package disk: one file of a disk is another one now; a call is counted. (Disk, part 23.)
-/
namespace Go.Proofs.YtbkngnjkaledlaaGreat.P4
open Go Go.RowKit Go.Lib Go.Maps Go.ChangeMaps Go.MapKept Go.Proofs.YtbkngnjkaledlaaGreat.P3

/-- all files but the one of that name -/
def restF (L : Files) (n : List UInt8) : Files := L.filter (fun p => p.1 != n)
theorem rest_perm {L : Files} (hn : (L.map (·.1)).Nodup) {n : List UInt8} {F : Fl} (hm : (n, F) ∈ L) : L.Perm ((n, F) :: restF L n) := by
  have h := todo_step (lf := fun _ => true) rfl hn hm
  have e1 : todoL L (fun _ => true) = L := List.filter_eq_self.2 (fun _ _ => rfl)
  have e2 : todoL L (fun k => true && !(k == n)) = restF L n := by
    unfold todoL restF
    apply List.filter_congr
    intro p _
    simp [bne]
  rw [e1, e2] at h
  exact h
theorem rest_none {L : Files} {n : List UInt8} (h : getF L n = none) : restF L n = L := by
  refine List.filter_eq_self.2 (fun p hp => ?_)
  unfold getF at h
  rw [Option.map_eq_none_iff, List.find?_eq_none] at h
  have := h p hp
  simpa using this
theorem rest_ne {L : Files} {n : List UInt8} : ∀ p ∈ restF L n, p.1 ≠ n := fun p hp => by
  have := (List.mem_filter.1 hp).2
  simpa using this
theorem rest_sub (L : Files) (n : List UInt8) : (restF L n).Sublist L := List.filter_sublist
theorem getF_some {L : Files} (hn : (L.map (·.1)).Nodup) {n : List UInt8} {F : Fl} (hm : (n, F) ∈ L) : getF L n = some F := by
  induction L with
  | nil => simp at hm
  | cons p r ih =>
    rw [List.map_cons, List.nodup_cons] at hn
    unfold getF
    rw [List.find?_cons]
    rcases List.mem_cons.1 hm with e | hm
    · rw [← e]; simp
    · have hne : p.1 ≠ n := fun e => hn.1 (List.mem_map.2 ⟨_, hm, e.symm⟩)
      have h2 : (p.1 == n) = false := by simpa using hne
      rw [h2]
      exact ih hn.2 hm
theorem getF_perm {L M : Files} (hn : (L.map (·.1)).Nodup) (hp : L.Perm M) (n : List UInt8) : getF L n = getF M n := by
  have hn2 : (M.map (·.1)).Nodup := (hp.map _).nodup_iff.1 hn
  cases h : getF M n with
  | some F => exact getF_some hn (hp.mem_iff.2 (getF_mem h))
  | none =>
    cases h2 : getF L n with
    | none => rfl
    | some F =>
      rw [getF_some hn2 (hp.mem_iff.1 (getF_mem h2))] at h
      cases h
theorem FilesOk.perm {w : World} {L M : Files} (h : FilesOk w L) (hp : L.Perm M) : FilesOk w M where
  at' := fun p hm => h.at' p (hp.mem_iff.2 hm)
  ok := fun p hm => h.ok p (hp.mem_iff.2 hm)
  names := (hp.map _).nodup_iff.1 h.names
  apart := hp.pairwise h.apart (fun {a b} hab k h1 h2 => hab k h2 h1)
  few := by rw [← hp.length_eq]; exact h.few
  long := fun p hm => h.long p (hp.mem_iff.2 hm)
  tnd := ((allW_perm hp).map _).nodup_iff.1 h.tnd
theorem DiskAt.perm {w : World} {d : Nat} {K : Dk} (h : DiskAt w d K) {M : Files} (hp : K.files.Perm M) : DiskAt w d { K with files := M } :=
  { blk := h.blk, keep := h.keep, map := looks_perm h.map (dir_perm hp), files := h.files.perm hp
    still := fun x hx => h.still x ((allW_perm hp).mem_iff.2 hx)
    turns := fun x hx => h.turns x ((allW_perm hp).mem_iff.2 hx)
    many := by have := h.many; show (allW M).length ≤ _ ∧ _; rw [← (allW_perm hp).length_eq]; exact this }
theorem allW_cons (n : List UInt8) (F : Fl) (L : Files) : allW ((n, F) :: L) = F.ws ++ allW L := rfl

/-- what of a disk calls write; and it is none of other kinds of blocks -/
theorem DiskAt.kinds {w : World} {d : Nat} {K : Dk} (h : DiskAt w d K) : ∀ k, K.wfoot d k → (∃ es cl, w.heap[k]? = some (.map es cl)) ∨ ∃ c t, w.heap[k]? = some (.cells c t (0, 0)) ∧ (t = 73 ∨ t = 148 ∨ t = 143 ∨ t = 123) := by
  rintro k (rfl | hk | ⟨p, hp, hk⟩)
  · exact .inr ⟨_, _, h.blk, .inl rfl⟩
  · rcases h.map with ⟨h1, _⟩ | ⟨b, D, h1, ⟨es, cl, h2, _⟩, _⟩
    · rw [h1] at hk; cases hk
    · rw [h1] at hk
      obtain rfl : b = k := by simpa using hk
      exact .inl ⟨_, _, h2⟩
  · obtain ⟨c, t, h1, h2⟩ := (h.files.at' p hp).kinds k hk
    exact .inr ⟨c, t, h1, .inr h2⟩
theorem DiskAt.kvfar {w : World} {d : Nat} {K : Dk} (h : DiskAt w d K) : ∀ g, K.kv.ownBlock = some g → ¬ K.wfoot d g := by
  intro g hg hk
  have hrow : ∃ c, w.heap[g]? = some (.cells c 3 (0, 0)) := by
    rcases h.keep.2 with ⟨h0, _⟩ | ⟨g', cap, cur, h0, _, h2, _⟩
    · rw [h0] at hg; cases hg
    · rw [h0] at hg
      obtain rfl : g' = g := by simpa [Value.ownBlock] using hg
      exact ⟨_, h2⟩
  obtain ⟨c, hc⟩ := hrow
  rcases h.kinds g hk with ⟨es, cl, h1⟩ | ⟨c', t, h1, h2⟩
  · rw [hc] at h1; cases h1
  · rw [hc] at h1
    simp at h1
    obtain ⟨_, rfl⟩ := h1
    rcases h2 with h | h | h | h <;> exact absurd h (by decide)
theorem DiskAt.keepR {w : World} {d : Nat} {K : Dk} (h : DiskAt w d K) : IntsR (K.wfoot d) w K.kv K.keep := by
  rcases h.keep.2 with ⟨h0, h1⟩ | ⟨g, cap, cur, h0, _, h2, h3, h4, h5, h6⟩
  · exact .inl ⟨none, 0, h0, List.length_eq_zero_iff.1 h1⟩
  · refine .inr ⟨g, 0, cap, h0, lt_of_block h2, h.kvfar g (by rw [h0]; rfl), fun j x hj => ?_⟩
    have hr := h.keep
    rw [h0] at hr
    rw [Nat.zero_add]
    exact owns_cell hr (by unfold ivs; rw [List.getElem?_map, hj]; rfl)
theorem DiskAt.mapNe {w : World} {d : Nat} {K : Dk} (h : DiskAt w d K) : K.m ≠ some d := by
  intro e
  rcases h.map with ⟨h1, _⟩ | ⟨b, D, h1, ⟨es, cl, h2, _⟩, _⟩
  · rw [h1] at e; cases e
  · rw [h1] at e
    obtain rfl : b = d := by simpa using e
    rw [h.blk] at h2; cases h2
theorem DiskAt.fileNe {w : World} {d : Nat} {K : Dk} (h : DiskAt w d K) : ∀ p ∈ K.files, ¬ p.2.foot d := by
  intro p hp hk
  obtain ⟨c, t, h1, h2⟩ := (h.files.at' p hp).kinds d hk
  rw [h.blk] at h1
  simp at h1
  obtain ⟨_, rfl⟩ := h1
  rcases h2 with h | h | h <;> exact absurd h (by decide)
theorem DiskAt.kvNe {w : World} {d : Nat} {K : Dk} (h : DiskAt w d K) : K.kv.ownBlock ≠ some d := fun e => h.kvfar d e (.inl rfl)
/-- only the disk's own block was written -/
theorem DiskAt.own {w w' : World} {d : Nat} {K K' : Dk} (h : DiskAt w d K) (ho : Only d w w') (hb : w'.heap[d]? = some (.cells K'.cells 73 (0, 0))) (hm : K'.m = K.m) (hf : K'.files = K.files) (hk : w'.ownsRow 0 3 1 K'.kv K'.keep.length (ivs K'.keep)) (ht : K.turn ≤ K'.turn) (hmany : K'.turn ≤ 9000) : DiskAt w' d K' := by
  have hfr : Fr (· = d) w w' := Fr.only ho rfl
  refine ⟨hb, hk, ?_, ?_, ?_, ?_, ?_⟩
  · rw [hm, hf]
    exact h.map.fr hfr (fun b hb e => h.mapNe (e ▸ hb))
  · rw [hf]
    exact { h.files with at' := fun p hp => (h.files.at' p hp).fr hfr (fun k hk e => h.fileNe p hp (e ▸ hk)) }
  · rw [hf]; exact h.still
  · rw [hf]; exact fun x hx => Nat.le_trans (h.turns x hx) ht
  · rw [hf]; have := h.many; exact ⟨by omega, hmany⟩
theorem DiskAt.keepOnly {w w' : World} {d : Nat} {K : Dk} (h : DiskAt w d K) (ho : Only d w w') : w'.ownsRow 0 3 1 K.kv K.keep.length (ivs K.keep) :=
  owns_keep h.keep (fun g hg => ho.block g (h.keep.lt g hg).2 (fun e => h.kvNe (e ▸ hg)))

/-- a file is another one now -/
theorem DiskAt.file {w w' : World} {d : Nat} {K : Dk} {n : List UInt8} {F F' : Fl} (h : DiskAt w d K) (hm : (n, F) ∈ K.files) (hF : FileAt w' F') (hf : Fr F.foot w w') (hb : F'.b = F.b) (hfoot : ∀ k, F'.foot k → F.foot k ∨ w.heap.size ≤ k) (hok : FileOk F')
    (hst : ∀ x ∈ F'.ws, x.kept = 0) (htu : ∀ x ∈ F'.ws, x.turn ≤ K.turn) (htn : (F'.ws.map (·.turn) ++ (allW (restF K.files n)).map (·.turn)).Nodup) (hlen : F'.ws.length + (allW (restF K.files n)).length ≤ K.turn) :
    DiskAt w' d { K with files := (n, F') :: restF K.files n } ∧ (∀ k, ({ K with files := (n, F') :: restF K.files n } : Dk).foot d k → K.foot d k ∨ w.heap.size ≤ k) := by
  have hp := rest_perm h.files.names hm
  have h2 := h.files.perm hp
  have hna := h2.names
  have hap := h2.apart
  rw [List.pairwise_cons] at hap
  have hsub := rest_sub K.files n
  have hrest : ∀ p ∈ restF K.files n, FileAt w' p.2 := fun p hp => (h.files.at' p (hsub.subset hp)).fr hf (fun k hk hk2 => hap.1 p hp k hk2 hk)
  refine ⟨⟨hf.keep h.blk (h.fileNe _ hm), ?_, ?_, ⟨?_, ?_, ?_, ?_, ?_, ?_, ?_⟩, ?_, ?_, ?_⟩, ?_⟩
  · exact owns_fr h.keep hf (fun g hg hk => h.kvfar g hg (.inr (.inr ⟨_, hm, hk⟩)))
  · have h3 : MapAt w K.m (dir ((n, F') :: restF K.files n)) := by
      have := looks_perm h.map (dir_perm hp)
      have e : dir ((n, F') :: restF K.files n) = dir ((n, F) :: restF K.files n) := by unfold dir; simp [hb]
      rw [e]; exact this
    refine h3.fr hf (fun b hb hk => ?_)
    obtain ⟨c, t, h4, _⟩ := (h.files.at' _ hm).kinds b hk
    rcases h.map with ⟨h5, _⟩ | ⟨b', D, h5, ⟨es, cl, h6, _⟩, _⟩
    · rw [h5] at hb; cases hb
    · rw [h5] at hb
      obtain rfl : b' = b := by simpa using hb
      rw [h6] at h4; cases h4
  · intro p hp
    rcases List.mem_cons.1 hp with rfl | hp
    · exact hF
    · exact hrest p hp
  · intro p hp
    rcases List.mem_cons.1 hp with rfl | hp
    · exact hok
    · exact h.files.ok p (hsub.subset hp)
  · exact hna
  · rw [List.pairwise_cons]
    refine ⟨fun p hp k hk hk2 => ?_, hap.2⟩
    rcases hfoot k hk with h3 | h3
    · exact hap.1 p hp k h3 hk2
    · have := (h.files.at' p (hsub.subset hp)).lt k hk2
      omega
  · have := h2.few
    exact this
  · intro p hp
    rcases List.mem_cons.1 hp with rfl | hp
    · exact h.files.long (n, F) hm
    · exact h.files.long p (hsub.subset hp)
  · rw [allW_cons, List.map_append]; exact htn
  · intro x hx
    have hx2 : x ∈ F'.ws ++ allW (restF K.files n) := hx
    rcases List.mem_append.1 hx2 with hx | hx
    · exact hst x hx
    · obtain ⟨p, hp, hxp⟩ := allW_mem.1 hx
      exact h.still x (allW_mem.2 ⟨p, hsub.subset hp, hxp⟩)
  · intro x hx
    have hx2 : x ∈ F'.ws ++ allW (restF K.files n) := hx
    rcases List.mem_append.1 hx2 with hx | hx
    · exact htu x hx
    · obtain ⟨p, hp, hxp⟩ := allW_mem.1 hx
      exact h.turns x (allW_mem.2 ⟨p, hsub.subset hp, hxp⟩)
  · show (F'.ws ++ allW (restF K.files n)).length ≤ K.turn ∧ _
    rw [List.length_append]
    exact ⟨hlen, h.many.2⟩
  · rintro k (rfl | hk | ⟨p, hp, hk⟩ | hk)
    · exact .inl (.inl rfl)
    · exact .inl (.inr (.inl hk))
    · rcases List.mem_cons.1 hp with rfl | hp
      · exact (hfoot k hk).imp (fun h3 => .inr (.inr (.inl ⟨_, hm, h3⟩))) id
      · exact .inl (.inr (.inr (.inl ⟨p, hsub.subset hp, hk⟩)))
    · exact .inl (.inr (.inr (.inr hk)))

end Go.Proofs.YtbkngnjkaledlaaGreat.P4

/-
  Package disk: whether there is room; a call is counted. (Disk, part 24.)
-/
namespace Go.Proofs.YtbkngnjkaledlaaGreat.P4
open Go Go.RowKit Go.Lib Go.Maps Go.ChangeMaps Go.MapKept Go.Proofs.YtbkngnjkaledlaaGreat.P3

def usedOf (L : Files) : Nat := sumOf (fun F => F.secs.length) L
def fullOf (K : Dk) : Bool := decide (0 < K.room) && decide (K.room ≤ (usedOf K.files : Int))

theorem DiskAt.used {w : World} {d : Nat} {K : Dk} (h : DiskAt w d K) : Calls Tryz.prog 76 #[.pointer (some ⟨d, 0, none⟩)] w fun e w' => e = .returned (.int .i64 (usedOf K.files : Nat)) ∧ Below w.heap.size w w' :=
  used_any w d K.m K.files (cell_at h.blk 0) h.map h.files.names h.files.at' h.files.ok (by have := h.files.few; omega)
theorem DiskAt.dirty {w : World} {d : Nat} {K : Dk} (h : DiskAt w d K) : Calls Tryz.prog 78 #[.pointer (some ⟨d, 0, none⟩)] w fun e w' => e = .returned (.int .i64 ((allW K.files).length : Nat)) ∧ Below w.heap.size w w' := by
  rw [allW_length]
  exact dirty_any w d K.m K.files (cell_at h.blk 0) h.map h.files.names h.files.at' h.files.ok (by have := h.files.few; omega)

set_option maxRecDepth 100000 in
theorem DiskAt.full {w : World} {d : Nat} {K : Dk} (h : DiskAt w d K) : Calls Tryz.prog 94 #[.pointer (some ⟨d, 0, none⟩)] w fun e w' => e = .returned (.bool (fullOf K)) ∧ Below w.heap.size w w' := by
  have c2 : w.cell? ⟨d, 2, none⟩ = some (.int .i64 K.room) := cell_at h.blk 2
  have HU : Hid (∀ W, Below w.heap.size w W → Calls Tryz.prog 76 #[.pointer (some ⟨d, 0, none⟩)] W fun e w' => e = .returned (.int .i64 (usedOf K.files : Nat)) ∧ Below W.heap.size W w' ∧ w'.cell? ⟨d, 2, none⟩ = some (.int .i64 K.room)) := fun W hW =>
    ((h.below hW).used).mono fun e w' ⟨h1, h2⟩ => ⟨h1, h2, cell_at (old_below (h.below hW).blk h2) 2⟩
  have hB : ∀ W W' : World, Below w.heap.size w W → Below W.heap.size W W' → Below w.heap.size w W' := fun W W' h1 h2 => thenBelow h1 h2
  have HB := Lib.hid hB
  unfold fullOf
  generalize K.room = r at *
  generalize (usedOf K.files) = u at *
  clear h hB
  by_cases hr : 0 < r
  · rw [decide_eq_true hr, Bool.true_and]
    have hd : decide (0 < r) = true := decide_eq_true hr
    go_enter Tryz.func94, Tryz.ntmps94
    go_wp2
    go_region_held3 (fun w' => w'.cell? ⟨d, 2, none⟩ = some (.int .i64 r)) (first | exact c2 | exact d2)
      ((first | (go_at_call 76; (with_reducible refine (HU.out _ (by first | exact below_drewN _ _ | exact (Below.refl _ _).drew | exact Below.refl _ _)).mono ?_); rintro e w3 ⟨rfl, hb3, d2⟩)))
    all_goals
      go_wp2
      go_ret
      exact ⟨rfl, thenBelow ((Below.refl _ w).drew) hb3⟩
  · rw [decide_eq_false hr, Bool.false_and]
    have hd : decide (0 < r) = false := decide_eq_false hr
    go_enter Tryz.func94, Tryz.ntmps94
    go_wp2
    go_quiet (fail)
    go_wp2
    go_ret
    exact ⟨rfl, below_drewN _ _⟩

/-- from one state of the disk to another: the frame, the blocks -/
structure Step (w : World) (d : Nat) (K : Dk) (w' : World) (K' : Dk) : Prop where
  at' : DiskAt w' d K'
  foot : ∀ k, K'.foot d k → K.foot d k ∨ w.heap.size ≤ k
  fr : Fr (K.foot d) w w'
theorem wfoot_foot {K : Dk} {d k : Nat} (h : K.wfoot d k) : K.foot d k := by
  rcases h with h | h | h
  · exact .inl h
  · exact .inr (.inl h)
  · exact .inr (.inr (.inl h))
theorem Step.below {w w' : World} {d : Nat} {K : Dk} (h : DiskAt w d K) (hb : Below w.heap.size w w') : Step w d K w' K := ⟨h.below hb, fun _ hk => .inl hk, .of hb⟩
theorem Step.trans {w w' w'' : World} {d : Nat} {K K' K'' : Dk} (h : Step w d K w' K') (k : Step w' d K' w'' K'') : Step w d K w'' K'' := by
  have hs := h.fr.size
  refine ⟨k.at', fun i hi => ?_, ?_⟩
  · rcases k.foot i hi with h1 | h1
    · exact h.foot i h1
    · exact .inr (by omega)
  · have f1 : Fr (fun i => K.foot d i ∨ w.heap.size ≤ i) w w' := h.fr.mono (fun _ _ h => .inl h)
    have f2 : Fr (fun i => K.foot d i ∨ w.heap.size ≤ i) w' w'' := k.fr.mono (fun i _ hi => h.foot i hi)
    exact (f1.trans f2).mono (fun i hi h => h.elim id (fun e => by omega))
theorem Crashed.step {w w' : World} {d : Nat} {K K' : Dk} {ks : List Int} {n : Int} (h : Crashed w d K ks n K' w') : Step w d K w' K' :=
  ⟨h.at', fun k hk => .inl (wfoot_foot (h.foot k hk)), h.fr.mono (fun _ _ hk => wfoot_foot hk)⟩
theorem Step.own {w w' : World} {d : Nat} {K K' : Dk} (h : DiskAt w d K) (ho : Only d w w') (hb : w'.heap[d]? = some (.cells K'.cells 73 (0, 0))) (hm : K'.m = K.m) (hf : K'.files = K.files) (hk : K'.kv = K.kv ∧ K'.keep = K.keep) (ht : K.turn ≤ K'.turn) (hmany : K'.turn ≤ 9000) : Step w d K w' K' := by
  refine ⟨h.own ho hb hm hf (by rw [hk.1, hk.2]; exact h.keepOnly ho) ht hmany, fun k hk2 => .inl ?_, .only ho (.inl rfl)⟩
  unfold Dk.foot at hk2
  rw [hm, hf, hk.1] at hk2
  exact hk2

/-- what a call that is counted comes to -/
inductive Count : World → Nat → Dk → Int → World → Dk → Prop where
  | free {w w' d K} : K.armed = false → Below w.heap.size w w' → DiskAt w' d K → Count w d K 0 w' K
  | less {w w' d K} : K.armed = true → 0 < K.left → Step w d K w' { K with left := K.left - 1 } → Count w d K 0 w' { K with left := K.left - 1 }
  | falls {w w' d K n K'} : K.armed = true → ¬ 0 < K.left → Crashed w d K K.keep n K' w' → Count w d K 14 w' K'
theorem Count.step {w w' : World} {d : Nat} {K K' : Dk} {e : Int} (h : Count w d K e w' K') (hK : DiskAt w d K) : Step w d K w' K' := by
  cases h with
  | free _ hb _ => exact .below hK hb
  | less _ _ h => exact h
  | falls _ _ h => exact h.step
def CountPost (w : World) (d : Nat) (K : Dk) (e : Ending) (w' : World) : Prop := ∃ n K', e = .returned (.int .i64 n) ∧ Count w d K n w' K'

set_option maxRecDepth 100000 in
theorem DiskAt.count {w : World} {d : Nat} {K : Dk} (h : DiskAt w d K) (hon : K.on = true) (hl : K.left ≤ 9223372036854775807) : Calls Tryz.prog 97 #[.pointer (some ⟨d, 0, none⟩)] w (CountPost w d K) := by
  have c4 : w.cell? ⟨d, 4, none⟩ = some (.bool K.armed) := cell_at h.blk 4
  have c5 : w.cell? ⟨d, 5, none⟩ = some (.int .i64 K.left) := cell_at h.blk 5
  have c6 : w.cell? ⟨d, 6, none⟩ = some K.kv := cell_at h.blk 6
  have f5 := free_at h.blk 5
  cases ha : K.armed with
  | false =>
    rw [ha] at c4
    have HF : Hid (CountPost w d K (.returned (.int .i64 0)) w) := ⟨0, K, rfl, .free ha (Below.refl _ _) h⟩
    clear h ha
    go_enter Tryz.func97, Tryz.ntmps97
    go_wp2
    go_ret
    exact HF.out
  | true =>
    rw [ha] at c4
    by_cases h0 : 0 < K.left
    · have HF : Hid (CountPost w d K (.returned (.int .i64 0)) (w.setCell ⟨d, 5, none⟩ (.int .i64 (K.left - 1)))) := ⟨0, _, rfl, .less ha h0 (.own h ((Only.refl d w).setCell 5 _) (set_at h.blk 5 _) rfl rfl ⟨rfl, rfl⟩ (Nat.le_refl _) h.many.2)⟩
      generalize K.left = n at *
      have k1 : decide (0 < n) = true := decide_eq_true h0
      clear h ha
      go_enter Tryz.func97, Tryz.ntmps97
      go_wp2
      go_ret
      exact HF.out
    · have HC : Hid (Calls Tryz.prog 25 #[.pointer (some ⟨d, 0, none⟩), K.kv] w fun e w' => ∃ u, e = .returned (.int .i64 u) ∧ CountPost w d K (.returned (.int .i64 14)) w') :=
        (crash_disk h hon h.keepR).mono fun e w' ⟨n, K', h1, h2⟩ => ⟨n, h1, 14, K', rfl, .falls ha h0 h2⟩
      have k1 : decide (0 < K.left) = false := decide_eq_false h0
      generalize K.left = n at *
      obtain ⟨kv, hkv⟩ : ∃ kv, kv = K.kv := ⟨_, rfl⟩
      rw [← hkv] at c6 HC
      obtain ⟨a, cap, hsh⟩ := owns_shape h.keep
      rw [← hkv] at hsh
      generalize K.keep.length = kl at hsh
      subst hsh
      clear h ha hkv
      go_enter Tryz.func97, Tryz.ntmps97
      go_wp2_with (go_at_call 25; (with_reducible refine HC.out.mono ?_); rintro e w' ⟨u, rfl, hp⟩; have HP := Lib.hid hp; clear hp)
      go_ret
      exact HP.out

end Go.Proofs.YtbkngnjkaledlaaGreat.P4
