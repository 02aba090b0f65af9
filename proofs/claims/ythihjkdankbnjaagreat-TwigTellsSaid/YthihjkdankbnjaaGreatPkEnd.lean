/-
  Package pack: Put.End.
-/
import Derived.Test.YthihjkdankbnjaaGreatPk0
namespace Go.Proofs.YthihjkdankbnjaaGreat.PP
open Go Go.RowKit Go.Lib Go.Proofs.YthihjkdankbnjaaGreat.P0

theorem putEnd_ok (w : World) (b : Nat) (xs : List UInt8) (h : PutIs w b xs 0) :
    Calls Tryz.prog 26 #[.pointer (some ⟨b, 0, none⟩)] w fun r w' => r = .returned (.tuple #[.string ⟨xs.toArray⟩, .int .i64 0]) ∧ w = w' := by
  have c2 := put_bad_cell h
  obtain ⟨v, c0, hr⟩ : ∃ v, w.cell? ⟨b, 0, none⟩ = some v ∧ (convert 54 9 v).run Tryz.prog w = .ok (.string ⟨xs.toArray⟩) w := by
    rcases h with ⟨v, h1, h2⟩ | ⟨h, rfl⟩
    · exact ⟨v, by rw [cell_at h1]; rfl, run_owned_string w h2⟩
    · exact ⟨_, by rw [cell_at h]; rfl, run_owned_string (base := 0) (n := 0) w (World.ownsRow_nil w 0 5 1)⟩
  clear h
  go_enter Tryz.func26, Tryz.ntmps26
  go_wp2
  go_ret2
  exact ⟨rfl, rfl⟩
theorem putEnd_bad (w : World) (b : Nat) (xs : List UInt8) (bad : Int) (hbad : bad ≠ 0) (h : PutIs w b xs bad) :
    Calls Tryz.prog 26 #[.pointer (some ⟨b, 0, none⟩)] w fun r w' => r = .returned (.tuple #[.string ⟨#[]⟩, .int .i64 bad]) ∧ ∃ n, w' = w.drewN n := by
  have c2 := put_bad_cell h
  have k : (bad != 0) = true := by simpa using hbad
  clear h
  go_enter Tryz.func26, Tryz.ntmps26
  go_wp2
  go_quiet (fail)
  go_wp2
  go_ret2
  exact ⟨rfl, _, rfl⟩
theorem putEnd_nil (w : World) :
    Calls Tryz.prog 26 #[.pointer none] w fun r w' => r = .returned (.tuple #[.string ⟨#[]⟩, .int .i64 1]) ∧ w = w' := by
  go_enter Tryz.func26, Tryz.ntmps26
  go_wp2
  go_ret2
  exact ⟨rfl, rfl⟩


end Go.Proofs.YthihjkdankbnjaaGreat.PP
