/-
  Package pack's Put, by contracts: fail, ready.
-/
import Derived.Test.YtadcmjcafimkeaaDoorPlain1
import Derived.BigQuiet
import Derived.Deep.QuietTactic
import Derived.Outline
import Derived.WalkSpells
import Derived.Lib.Builder
import Derived.Lib.SliceRun
namespace Go.Proofs.YtadcmjcafimkeaaDoor.P1
open Go Go.RowKit Go.Lib

section
variable {P : Program} (w : World)
theorem run_neq_nil_ptr {tp te : TypeId} (a : Addr) (hp : P.underlying tp = some (.pointer te)) :
    (binOp .neq tp (.pointer none) (.pointer (some a))).run P w = .ok (.bool true) w := by
  have h : ∀ d : Nat, (Op.equalIn (d + 1) tp (.pointer none) (.pointer (some a))).run P w = .ok false w := fun d => by
    simp [Op.equalIn, run_underlying hp]
  simp only [binOp]
  simp [Op.equal, Op.maxDepth, h 9999]
end

theorem infoPut : (Tryd.prog.info? 29).isSome = true := by kernel_rfl

theorem fail_first (w : World) (b : Nat) (xs : List UInt8) (e : Int) (h : PutIs w b xs 0) :
    Calls Tryd.prog 44 #[.pointer (some ⟨b, 0, none⟩), .int .i64 e] w fun r w' => r = .returned (.pointer (some ⟨b, 0, none⟩)) ∧ PutIs w' b xs e ∧ Fr b w w' := by
  obtain ⟨c, hc, hd, hp⟩ : ∃ c : Array Value, w.heap[b]? = some (.cells c 29 (0, 0)) ∧ c[2]? = some (.int .i64 0) ∧ PutIs (w.setCell ⟨b, 2, none⟩ (.int .i64 e)) b xs e := by
    rcases h with ⟨v, h1, h2⟩ | ⟨h, rfl⟩
    · exact ⟨_, h1, rfl, .inl ⟨v, by rw [set_at h1]; rfl, ownsRow_setCell_below h2 (by simp) _⟩⟩
    · exact ⟨_, h, rfl, .inr ⟨by unfold PutNew at *; rw [set_at h]; rfl, rfl⟩⟩
  have hcell : w.cell? ⟨b, 2, none⟩ = some (.int .i64 0) := by rw [cell_at hc]; exact hd
  have hfr : w.frozen? ⟨b, 2, none⟩ = false := free_at hc 2
  have hB : Fr b w (w.setCell ⟨b, 2, none⟩ (.int .i64 e)) := (Fr.refl b w).setCell _ _
  clear hc hd h
  go_enter Tryd.func44, Tryd.ntmps44
  go_wp2
  go_ret
  exact ⟨rfl, hp, hB⟩

theorem fail_later (w : World) (b : Nat) (xs : List UInt8) (e bad : Int) (h : PutIs w b xs bad) (hbad : bad ≠ 0) :
    Calls Tryd.prog 44 #[.pointer (some ⟨b, 0, none⟩), .int .i64 e] w fun r w' => r = .returned (.pointer (some ⟨b, 0, none⟩)) ∧ w = w' := by
  have hcell : w.cell? ⟨b, 2, none⟩ = some (.int .i64 bad) := by
    rcases h with ⟨v, h1, h2⟩ | ⟨h, rfl⟩
    · rw [cell_at h1]; rfl
    · rw [cell_at h]; rfl
  clear h
  have hb : (bad == 0) = false := by simpa using hbad
  go_enter Tryd.func44, Tryd.ntmps44
  go_wp2
  go_ret
  exact ⟨rfl, rfl⟩

theorem fail_nil (w : World) (e : Int) :
    Calls Tryd.prog 44 #[.pointer none, .int .i64 e] w fun r w' => r = .returned (.pointer none) ∧ w = w' := by
  go_enter Tryd.func44, Tryd.ntmps44
  go_wp2
  go_ret
  exact ⟨rfl, rfl⟩

theorem ready_bad (w : World) (b : Nat) (xs : List UInt8) (bad : Int) (h : PutIs w b xs bad) (hbad : bad ≠ 0) :
    Calls Tryd.prog 45 #[.pointer (some ⟨b, 0, none⟩)] w fun r w' => r = .returned (.bool false) ∧ w = w' := by
  have hcell : w.cell? ⟨b, 2, none⟩ = some (.int .i64 bad) := by
    rcases h with ⟨v, h1, h2⟩ | ⟨h, rfl⟩
    · rw [cell_at h1]; rfl
    · rw [cell_at h]; rfl
  clear h
  have hb : (bad != 0) = true := by simpa using hbad
  go_enter Tryd.func45, Tryd.ntmps45
  go_wp2
  go_ret
  exact ⟨rfl, rfl⟩

theorem ready_nil (w : World) :
    Calls Tryd.prog 45 #[.pointer none] w fun r w' => r = .returned (.bool false) ∧ w = w' := by
  go_enter Tryd.func45, Tryd.ntmps45
  go_wp2
  go_ret
  exact ⟨rfl, rfl⟩

theorem clone_nil (w : World) :
    Calls Tryd.prog 52 #[.slice none 0 0] w fun r w' => r = .returned (.slice none 0 0) ∧ w = w' := by
  have k := Lib.run_eql_slice_nil (P := Tryd.prog) w 26 5 none 0 0 0 0 Tryd.underlying26
  go_enter Tryd.func52, Tryd.ntmps52
  go_wp2
  go_ret
  exact ⟨rfl, rfl⟩

theorem ready_ok (w : World) (b : Nat) (xs : List UInt8) (h : PutIs w b xs 0) :
    Calls Tryd.prog 45 #[.pointer (some ⟨b, 0, none⟩)] w fun r w' => r = .returned (.bool true) ∧ PutOwn w' b xs 0 ∧ Fr b w w' := by
  rcases h with h | ⟨h, rfl⟩
  · have ho := h
    obtain ⟨v, h1, h2⟩ := h
    have c1 : w.cell? ⟨b, 1, none⟩ = some (.pointer (some ⟨b, 0, none⟩)) := by rw [cell_at h1]; rfl
    have c2 : w.cell? ⟨b, 2, none⟩ = some (.int .i64 0) := by rw [cell_at h1]; rfl
    clear h1 h2
    obtain ⟨j, hj⟩ := Option.isSome_iff_exists.1 infoPut
    have k := run_neq_ptr_same w ⟨b, 0, none⟩ Tryd.underlying25 hj
    clear hj
    go_enter Tryd.func45, Tryd.ntmps45
    go_wp2
    go_ret
    exact ⟨rfl, ho, Fr.refl _ _⟩
  · have c0 : w.cell? ⟨b, 0, none⟩ = some (.slice none 0 0) := by rw [cell_at h]; rfl
    have c1 : w.cell? ⟨b, 1, none⟩ = some (.pointer none) := by rw [cell_at h]; rfl
    have c2 : w.cell? ⟨b, 2, none⟩ = some (.int .i64 0) := by rw [cell_at h]; rfl
    have f0 : w.frozen? ⟨b, 0, none⟩ = false := free_at h 0
    have f1 : w.frozen? ⟨b, 1, none⟩ = false := free_at h 1
    have s0 := set_at h 0 (.slice none 0 0)
    have s1 := set_at s0 1 (.pointer (some ⟨b, 0, none⟩))
    have f1' : (w.setCell ⟨b, 0, none⟩ (.slice none 0 0)).frozen? ⟨b, 1, none⟩ = false := free_at s0 1
    have c1' : (w.setCell ⟨b, 0, none⟩ (.slice none 0 0)).cell? ⟨b, 1, none⟩ = some (.pointer none) := by rw [cell_at s0]; rfl
    have ho : PutOwn ((w.setCell ⟨b, 0, none⟩ (.slice none 0 0)).setCell ⟨b, 1, none⟩ (.pointer (some ⟨b, 0, none⟩))) b [] 0 := ⟨.slice none 0 0, by rw [s1]; rfl, World.ownsRow_nil _ _ _ _⟩
    have hB : Fr b w ((w.setCell ⟨b, 0, none⟩ (.slice none 0 0)).setCell ⟨b, 1, none⟩ (.pointer (some ⟨b, 0, none⟩))) := ((Fr.refl b w).setCell _ _).setCell _ _
    clear h s0 s1
    have k := run_neq_nil_ptr (P := Tryd.prog) w ⟨b, 0, none⟩ Tryd.underlying25
    go_enter Tryd.func45, Tryd.ntmps45
    go_wp2_with (go_at_call 52; refine (clone_nil _).mono ?_; rintro e w' ⟨rfl, rfl⟩)
    go_ret
    exact ⟨rfl, ho, hB⟩

end Go.Proofs.YtadcmjcafimkeaaDoor.P1
