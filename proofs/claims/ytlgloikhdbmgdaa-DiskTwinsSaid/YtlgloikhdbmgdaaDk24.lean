/-
  Package disk: whether there is room; a call is counted. (Disk, part 24.)
-/
import Derived.Test.YtlgloikhdbmgdaaDk23
namespace Go.Proofs.Ytlgloikhdbmgdaa.P4
open Go Go.RowKit Go.Lib Go.Maps Go.ChangeMaps Go.MapKept Go.Proofs.Ytlgloikhdbmgdaa.P3

def usedOf (L : Files) : Nat := sumOf (fun F => F.secs.length) L
def fullOf (K : Dk) : Bool := decide (0 < K.room) && decide (K.room ≤ (usedOf K.files : Int))

theorem DiskAt.used {w : World} {d : Nat} {K : Dk} (h : DiskAt w d K) : Calls Try.prog 25 #[.pointer (some ⟨d, 0, none⟩)] w fun e w' => e = .returned (.int .i64 (usedOf K.files : Nat)) ∧ Below w.heap.size w w' :=
  used_any w d K.m K.files (cell_at h.blk 0) h.map h.files.names h.files.at' h.files.ok (by have := h.files.few; omega)
theorem DiskAt.dirty {w : World} {d : Nat} {K : Dk} (h : DiskAt w d K) : Calls Try.prog 18 #[.pointer (some ⟨d, 0, none⟩)] w fun e w' => e = .returned (.int .i64 ((allW K.files).length : Nat)) ∧ Below w.heap.size w w' := by
  rw [allW_length]
  exact dirty_any w d K.m K.files (cell_at h.blk 0) h.map h.files.names h.files.at' h.files.ok (by have := h.files.few; omega)

set_option maxRecDepth 100000 in
theorem DiskAt.full {w : World} {d : Nat} {K : Dk} (h : DiskAt w d K) : Calls Try.prog 33 #[.pointer (some ⟨d, 0, none⟩)] w fun e w' => e = .returned (.bool (fullOf K)) ∧ Below w.heap.size w w' := by
  have c2 : w.cell? ⟨d, 2, none⟩ = some (.int .i64 K.room) := cell_at h.blk 2
  have HU : Hid (∀ W, Below w.heap.size w W → Calls Try.prog 25 #[.pointer (some ⟨d, 0, none⟩)] W fun e w' => e = .returned (.int .i64 (usedOf K.files : Nat)) ∧ Below W.heap.size W w' ∧ w'.cell? ⟨d, 2, none⟩ = some (.int .i64 K.room)) := fun W hW =>
    ((h.below hW).used).mono fun e w' ⟨h1, h2⟩ => ⟨h1, h2, cell_at (old_below (h.below hW).blk h2) 2⟩
  have hB : ∀ W W' : World, Below w.heap.size w W → Below W.heap.size W W' → Below w.heap.size w W' := fun W W' h1 h2 => thenBelow h1 h2
  have HB := Lib.hid hB
  unfold fullOf
  generalize K.room = r at *
  generalize (usedOf K.files) = u at *
  clear h hB
  by_cases hr : 0 < r
  · rw [decide_eq_true hr, Bool.true_and]
    have hd : decide (0 < r) = true := decide_eq_true hr
    go_enter Try.func33, Try.ntmps33
    go_wp2
    go_region_held3 (fun w' => w'.cell? ⟨d, 2, none⟩ = some (.int .i64 r)) (first | exact c2 | exact d2)
      ((first | (go_at_call 25; (with_reducible refine (HU.out _ (by first | exact below_drewN _ _ | exact (Below.refl _ _).drew | exact Below.refl _ _)).mono ?_); rintro e w3 ⟨rfl, hb3, d2⟩)))
    all_goals
      go_wp2
      go_ret
      exact ⟨rfl, thenBelow ((Below.refl _ w).drew) hb3⟩
  · rw [decide_eq_false hr, Bool.false_and]
    have hd : decide (0 < r) = false := decide_eq_false hr
    go_enter Try.func33, Try.ntmps33
    go_wp2
    go_quiet (fail)
    go_wp2
    go_ret
    exact ⟨rfl, below_drewN _ _⟩

/-- from one state of the disk to another: the frame, the blocks -/
structure Step (w : World) (d : Nat) (K : Dk) (w' : World) (K' : Dk) : Prop where
  at' : DiskAt w' d K'
  foot : ∀ k, K'.foot d k → K.foot d k ∨ w.heap.size ≤ k
  fr : Fr (K.foot d) w w'
theorem wfoot_foot {K : Dk} {d k : Nat} (h : K.wfoot d k) : K.foot d k := by
  rcases h with h | h | h
  · exact .inl h
  · exact .inr (.inl h)
  · exact .inr (.inr (.inl h))
theorem Step.below {w w' : World} {d : Nat} {K : Dk} (h : DiskAt w d K) (hb : Below w.heap.size w w') : Step w d K w' K := ⟨h.below hb, fun _ hk => .inl hk, .of hb⟩
theorem Step.trans {w w' w'' : World} {d : Nat} {K K' K'' : Dk} (h : Step w d K w' K') (k : Step w' d K' w'' K'') : Step w d K w'' K'' := by
  have hs := h.fr.size
  refine ⟨k.at', fun i hi => ?_, ?_⟩
  · rcases k.foot i hi with h1 | h1
    · exact h.foot i h1
    · exact .inr (by omega)
  · have f1 : Fr (fun i => K.foot d i ∨ w.heap.size ≤ i) w w' := h.fr.mono (fun _ _ h => .inl h)
    have f2 : Fr (fun i => K.foot d i ∨ w.heap.size ≤ i) w' w'' := k.fr.mono (fun i _ hi => h.foot i hi)
    exact (f1.trans f2).mono (fun i hi h => h.elim id (fun e => by omega))
theorem Crashed.step {w w' : World} {d : Nat} {K K' : Dk} {ks : List Int} {n : Int} (h : Crashed w d K ks n K' w') : Step w d K w' K' :=
  ⟨h.at', fun k hk => .inl (wfoot_foot (h.foot k hk)), h.fr.mono (fun _ _ hk => wfoot_foot hk)⟩
theorem Step.own {w w' : World} {d : Nat} {K K' : Dk} (h : DiskAt w d K) (ho : Only d w w') (hb : w'.heap[d]? = some (.cells K'.cells 58 (0, 0))) (hm : K'.m = K.m) (hf : K'.files = K.files) (hk : K'.kv = K.kv ∧ K'.keep = K.keep) (ht : K.turn ≤ K'.turn) (hmany : K'.turn ≤ 9000) : Step w d K w' K' := by
  refine ⟨h.own ho hb hm hf (by rw [hk.1, hk.2]; exact h.keepOnly ho) ht hmany, fun k hk2 => .inl ?_, .only ho (.inl rfl)⟩
  unfold Dk.foot at hk2
  rw [hm, hf, hk.1] at hk2
  exact hk2

/-- what a call that is counted comes to -/
inductive Count : World → Nat → Dk → Int → World → Dk → Prop where
  | free {w w' d K} : K.armed = false → Below w.heap.size w w' → DiskAt w' d K → Count w d K 0 w' K
  | less {w w' d K} : K.armed = true → 0 < K.left → Step w d K w' { K with left := K.left - 1 } → Count w d K 0 w' { K with left := K.left - 1 }
  | falls {w w' d K n K'} : K.armed = true → ¬ 0 < K.left → Crashed w d K K.keep n K' w' → Count w d K 14 w' K'
theorem Count.step {w w' : World} {d : Nat} {K K' : Dk} {e : Int} (h : Count w d K e w' K') (hK : DiskAt w d K) : Step w d K w' K' := by
  cases h with
  | free _ hb _ => exact .below hK hb
  | less _ _ h => exact h
  | falls _ _ h => exact h.step
def CountPost (w : World) (d : Nat) (K : Dk) (e : Ending) (w' : World) : Prop := ∃ n K', e = .returned (.int .i64 n) ∧ Count w d K n w' K'

set_option maxRecDepth 100000 in
theorem DiskAt.count {w : World} {d : Nat} {K : Dk} (h : DiskAt w d K) (hon : K.on = true) (hl : K.left ≤ 9223372036854775807) : Calls Try.prog 37 #[.pointer (some ⟨d, 0, none⟩)] w (CountPost w d K) := by
  have c4 : w.cell? ⟨d, 4, none⟩ = some (.bool K.armed) := cell_at h.blk 4
  have c5 : w.cell? ⟨d, 5, none⟩ = some (.int .i64 K.left) := cell_at h.blk 5
  have c6 : w.cell? ⟨d, 6, none⟩ = some K.kv := cell_at h.blk 6
  have f5 := free_at h.blk 5
  cases ha : K.armed with
  | false =>
    rw [ha] at c4
    have HF : Hid (CountPost w d K (.returned (.int .i64 0)) w) := ⟨0, K, rfl, .free ha (Below.refl _ _) h⟩
    clear h ha
    go_enter Try.func37, Try.ntmps37
    go_wp2
    go_ret
    exact HF.out
  | true =>
    rw [ha] at c4
    by_cases h0 : 0 < K.left
    · have HF : Hid (CountPost w d K (.returned (.int .i64 0)) (w.setCell ⟨d, 5, none⟩ (.int .i64 (K.left - 1)))) := ⟨0, _, rfl, .less ha h0 (.own h ((Only.refl d w).setCell 5 _) (set_at h.blk 5 _) rfl rfl ⟨rfl, rfl⟩ (Nat.le_refl _) h.many.2)⟩
      generalize K.left = n at *
      have k1 : decide (0 < n) = true := decide_eq_true h0
      clear h ha
      go_enter Try.func37, Try.ntmps37
      go_wp2
      go_ret
      exact HF.out
    · have HC : Hid (Calls Try.prog 13 #[.pointer (some ⟨d, 0, none⟩), K.kv] w fun e w' => ∃ u, e = .returned (.int .i64 u) ∧ CountPost w d K (.returned (.int .i64 14)) w') :=
        (crash_disk h hon h.keepR).mono fun e w' ⟨n, K', h1, h2⟩ => ⟨n, h1, 14, K', rfl, .falls ha h0 h2⟩
      have k1 : decide (0 < K.left) = false := decide_eq_false h0
      generalize K.left = n at *
      obtain ⟨kv, hkv⟩ : ∃ kv, kv = K.kv := ⟨_, rfl⟩
      rw [← hkv] at c6 HC
      obtain ⟨a, cap, hsh⟩ := owns_shape h.keep
      rw [← hkv] at hsh
      generalize K.keep.length = kl at hsh
      subst hsh
      clear h ha hkv
      go_enter Try.func37, Try.ntmps37
      go_wp2_with (go_at_call 13; (with_reducible refine HC.out.mono ?_); rintro e w' ⟨u, rfl, hp⟩; have HP := Lib.hid hp; clear hp)
      go_ret
      exact HP.out

end Go.Proofs.Ytlgloikhdbmgdaa.P4
