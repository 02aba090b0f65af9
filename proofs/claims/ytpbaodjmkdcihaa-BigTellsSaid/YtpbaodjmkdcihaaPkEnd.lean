/-
  Package pack: Put.End.
-/
import Derived.Test.YtpbaodjmkdcihaaPk0
namespace Go.Proofs.Ytpbaodjmkdcihaa.PP
open Go Go.RowKit Go.Lib Go.Proofs.Ytpbaodjmkdcihaa.P0

theorem putEnd_ok (w : World) (b : Nat) (xs : List UInt8) (h : PutIs w b xs 0) :
    Calls Try.prog 22 #[.pointer (some ⟨b, 0, none⟩)] w fun r w' => r = .returned (.tuple #[.string ⟨xs.toArray⟩, .int .i64 0]) ∧ w = w' := by
  have c2 := put_bad_cell h
  obtain ⟨v, c0, hr⟩ : ∃ v, w.cell? ⟨b, 0, none⟩ = some v ∧ (convert 44 9 v).run Try.prog w = .ok (.string ⟨xs.toArray⟩) w := by
    rcases h with ⟨v, h1, h2⟩ | ⟨h, rfl⟩
    · exact ⟨v, by rw [cell_at h1]; rfl, run_owned_string w h2⟩
    · exact ⟨_, by rw [cell_at h]; rfl, run_owned_string (base := 0) (n := 0) w (World.ownsRow_nil w 0 5 1)⟩
  clear h
  go_enter Try.func22, Try.ntmps22
  go_wp2
  go_ret2
  exact ⟨rfl, rfl⟩
theorem putEnd_bad (w : World) (b : Nat) (xs : List UInt8) (bad : Int) (hbad : bad ≠ 0) (h : PutIs w b xs bad) :
    Calls Try.prog 22 #[.pointer (some ⟨b, 0, none⟩)] w fun r w' => r = .returned (.tuple #[.string ⟨#[]⟩, .int .i64 bad]) ∧ ∃ n, w' = w.drewN n := by
  have c2 := put_bad_cell h
  have k : (bad != 0) = true := by simpa using hbad
  clear h
  go_enter Try.func22, Try.ntmps22
  go_wp2
  go_quiet (fail)
  go_wp2
  go_ret2
  exact ⟨rfl, _, rfl⟩
theorem putEnd_nil (w : World) :
    Calls Try.prog 22 #[.pointer none] w fun r w' => r = .returned (.tuple #[.string ⟨#[]⟩, .int .i64 1]) ∧ w = w' := by
  go_enter Try.func22, Try.ntmps22
  go_wp2
  go_ret2
  exact ⟨rfl, rfl⟩


end Go.Proofs.Ytpbaodjmkdcihaa.PP
