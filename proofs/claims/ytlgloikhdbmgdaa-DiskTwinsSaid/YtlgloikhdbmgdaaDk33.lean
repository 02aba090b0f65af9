/-
  Package disk: Arm. (Disk, part 33.)
-/
import Derived.Test.YtlgloikhdbmgdaaAb2
namespace Go.Proofs.Ytlgloikhdbmgdaa.P4
open Go Go.RowKit Go.Lib Go.Maps Go.ChangeMaps Go.MapKept Go.Proofs.Ytlgloikhdbmgdaa.P3

def ArmedAt (w : World) (d : Nat) (n : Int) (R : World → Value → Prop) (e : Ending) (w' : World) : Prop :=
  ∃ v' W, e = .returned (.tuple #[]) ∧ R W v' ∧ w' = ((W.setCell ⟨d, 4, none⟩ (.bool true)).setCell ⟨d, 5, none⟩ (.int .i64 n)).setCell ⟨d, 6, none⟩ v'
theorem arm_pos (w : World) (d : Nat) (n : Int) (v : Value) (a b c : Value) (c4 : w.cell? ⟨d, 4, none⟩ = some a) (c5 : w.cell? ⟨d, 5, none⟩ = some b) (c6 : w.cell? ⟨d, 6, none⟩ = some c)
    (f4 : w.frozen? ⟨d, 4, none⟩ = false) (f5 : w.frozen? ⟨d, 5, none⟩ = false) (f6 : w.frozen? ⟨d, 6, none⟩ = false) (hn : 0 ≤ n) (R : World → Value → Prop)
    (HC : Hid (Calls Try.prog 44 #[v] (((w.setCell ⟨d, 4, none⟩ (.bool false)).setCell ⟨d, 5, none⟩ (.int .i64 0)).setCell ⟨d, 6, none⟩ (.slice none 0 0)) fun e w' => ∃ p k q, e = .returned (.slice p k q) ∧ R w' (.slice p k q)))
    (HR : Hid (∀ W v', R W v' → (∃ x, W.cell? ⟨d, 4, none⟩ = some x) ∧ (∃ x, W.cell? ⟨d, 5, none⟩ = some x) ∧ (∃ x, W.cell? ⟨d, 6, none⟩ = some x) ∧ W.frozen? ⟨d, 4, none⟩ = false ∧ W.frozen? ⟨d, 5, none⟩ = false ∧ W.frozen? ⟨d, 6, none⟩ = false)) :
    Calls Try.prog 19 #[.pointer (some ⟨d, 0, none⟩), .int .i64 n, v] w (ArmedAt w d n R) := by
  go_enter Try.func19, Try.ntmps19
  go_wp2_with (go_at_call 44; (with_reducible refine HC.out.mono ?_); rintro e w1 ⟨p, k, q, rfl, hr⟩; obtain ⟨⟨x4, g4⟩, ⟨x5, g5⟩, ⟨x6, g6⟩, k4, k5, k6⟩ := HR.out _ _ hr; have HRR := Lib.hid hr; clear hr)
  go_end0
  exact ⟨.slice p k q, _, rfl, HRR.out, rfl⟩


theorem len_own {w : World} {base e n : Nat} {v : Value} {xs : List Value} (h : w.ownsRow base e 1 v n xs) : ∃ p q, v = .slice p n q := by
  rcases h.2 with ⟨rfl, rfl⟩ | ⟨g, cap, cur, rfl, _⟩
  · exact ⟨none, 0, rfl⟩
  · exact ⟨_, _, rfl⟩
theorem owns_zero {w : World} {base e z n : Nat} {v : Value} {xs : List Value} (h : w.ownsRow base e z v n xs) : w.ownsRow 0 e z v n xs :=
  ⟨h.1, h.2.imp id (fun ⟨g, cap, cur, e, _, r⟩ => ⟨g, cap, cur, e, Nat.zero_le _, r⟩)⟩
def ArmPost (w : World) (d : Nat) (K : Dk) (n : Int) (ks : List Int) (e : Ending) (w' : World) : Prop :=
  ∃ v', e = .returned (.tuple #[]) ∧ Step w d K w' { K with armed := true, left := n, kv := v', keep := ks }
theorem DiskAt.arm {w : World} {d : Nat} {K : Dk} (h : DiskAt w d K) (n : Int) (hn : 0 ≤ n) (g o c : Nat) (ks : List Int) (hlen : ks.length * 8 ≤ 140737488355328) (hg : g ≠ d)
    (hc : ∀ j, j < ks.length → w.cell? ⟨g, o + j, none⟩ = some (.int .i64 (ks.getD j 0))) :
    Calls Try.prog 19 #[.pointer (some ⟨d, 0, none⟩), .int .i64 n, .slice (some ⟨g, o, none⟩) ks.length c] w (ArmPost w d K n ks) := by
  obtain ⟨w3, hw3⟩ : ∃ w3, w3 = ((w.setCell ⟨d, 4, none⟩ (.bool false)).setCell ⟨d, 5, none⟩ (.int .i64 0)).setCell ⟨d, 6, none⟩ (.slice none 0 0) := ⟨_, rfl⟩
  have ho3 : Only d w w3 := by rw [hw3]; exact (((Only.refl d w).setCell _ _).setCell _ _).setCell _ _
  have hs3 : w3.heap.size = w.heap.size := by rw [hw3]; simp [World.setCell]
  have hd := lt_of_block h.blk
  have hb3 : w3.heap[d]? = some (.cells (((K.cells.setIfInBounds 4 (.bool false)).setIfInBounds 5 (.int .i64 0)).setIfInBounds 6 (.slice none 0 0)) 58 (0, 0)) := by
    rw [hw3]; exact set_at (set_at (set_at h.blk 4 _) 5 _) 6 _
  have hcl := Try.slices_Clone_int g o ks.length c ks w3 (Nat.le_refl _) hlen (fun j hj => by
    rw [← hc j hj, hw3]
    unfold World.cell?
    rw [Below.heap_setCell _ _ _ _ hg, Below.heap_setCell _ _ _ _ hg, Below.heap_setCell _ _ _ _ hg])
  have HB : ∀ W, Below w3.heap.size w3 W → W.heap[d]? = some (.cells (((K.cells.setIfInBounds 4 (.bool false)).setIfInBounds 5 (.int .i64 0)).setIfInBounds 6 (.slice none 0 0)) 58 (0, 0)) := fun W hW => old_below hb3 hW
  refine (arm_pos w d n _ _ _ _ (cell_at h.blk 4) (cell_at h.blk 5) (cell_at h.blk 6) (free_at h.blk 4) (free_at h.blk 5) (free_at h.blk 6) hn (fun W v' => Below w3.heap.size w3 W ∧ W.ownsRow w3.heap.size 3 1 v' ks.length (ivs ks)) ?_ ?_).mono ?_
  · rw [← hw3]
    refine hcl.mono ?_
    rintro e W ⟨v', rfl, h1, _, h3⟩
    rw [List.take_length] at h1
    obtain ⟨p, q, rfl⟩ := len_own h1
    exact ⟨p, _, q, rfl, h3, h1⟩
  · rintro W v' ⟨hW, _⟩
    have hB := HB W hW
    exact ⟨⟨_, cell_at hB 4⟩, ⟨_, cell_at hB 5⟩, ⟨_, cell_at hB 6⟩, free_at hB 4, free_at hB 5, free_at hB 6⟩
  · rintro e w' ⟨v', W, rfl, ⟨hW, hrow⟩, rfl⟩
    have hB := HB W hW
    have hoW : Only d W (((W.setCell ⟨d, 4, none⟩ (.bool true)).setCell ⟨d, 5, none⟩ (.int .i64 n)).setCell ⟨d, 6, none⟩ v') := (((Only.refl d W).setCell _ _).setCell _ _).setCell _ _
    have ho : Only d w (((W.setCell ⟨d, 4, none⟩ (.bool true)).setCell ⟨d, 5, none⟩ (.int .i64 n)).setCell ⟨d, 6, none⟩ v') := (ho3.trans (.of hW)).trans hoW
    have hlt : ∀ k, v'.ownBlock = some k → w.heap.size ≤ k := fun k hk => by have := (hrow.lt k hk).1; omega
    refine ⟨v', rfl, ⟨h.own ho (set_at (set_at (set_at hB 4 _) 5 _) 6 _) rfl rfl ?_ (Nat.le_refl _) h.many.2, ?_, .only ho (.inl rfl)⟩⟩
    · exact owns_fr (owns_zero hrow) (Fr.only (S := (· = d)) hoW rfl) (fun k hk e => by have := hlt k hk; omega)
    · rintro k (hk | hk | hk | hk)
      · exact .inl (.inl hk)
      · exact .inl (.inr (.inl hk))
      · exact .inl (.inr (.inr (.inl hk)))
      · exact .inr (hlt k hk)

end Go.Proofs.Ytlgloikhdbmgdaa.P4
