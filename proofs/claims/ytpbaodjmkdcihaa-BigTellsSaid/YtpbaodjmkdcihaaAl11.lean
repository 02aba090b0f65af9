/-
  The law's first call. (Big.)
-/
import Derived.Test.YtpbaodjmkdcihaaN10
namespace Go.Proofs.Ytpbaodjmkdcihaa.P11
open Go Go.RowKit Go.Lib Go.Proofs.Ytpbaodjmkdcihaa.PK
open Go.Proofs.Ytpbaodjmkdcihaa.P0 (low str str_size low_length size_app)

def pX : Pg := ⟨5, 5, 1, ⟨#[97, 98]⟩⟩
theorem layX : layB ⟨#[97, 98]⟩ 5 1 = ([pX], 0) := by
  unfold layB
  rw [if_pos (by decide)]
  have e : needN (⟨#[97, 98]⟩ : ByteArray).size = 1 := by decide
  rw [e]
  have h : (⟨#[97, 98]⟩ : ByteArray).extract 0 2 = ⟨#[97, 98]⟩ := by
    apply P0.text_ext
    rw [Lib.extract_data]
    rfl
  show (([⟨5, 5 + 0, 1, (⟨#[97, 98]⟩ : ByteArray).extract 0 2⟩] : List Pg), (0 : Int)) = _
  rw [h]
  rfl
theorem refX : refB 5 2 = (refT 5 2, 0) := by unfold refB; rw [if_pos (by decide)]; rfl
theorem refX_size : (refT 5 2).size = 4 := by unfold refT; rw [size_app, str_size, str_size, low_length, low_length]

set_option maxRecDepth 100000 in
theorem alive_any (w : World) : Calls Try.prog 5 #[] w fun r w' => r = .returned (.bool true) ∧ Below w.heap.size w w' := by
  have HL : Hid (∀ W, Calls Try.prog 6 #[.string ⟨#[97, 98]⟩, .int .i64 5, .int .i64 1] W fun e w' => ∃ v, e = .returned (.tuple #[v, .int .i64 0]) ∧ OwnP W.heap.size w' v [pX] ∧ Below W.heap.size W w') := fun W => by
    have := lay_any W ⟨#[97, 98]⟩ 5 1 (by decide) (by decide)
    rw [layX] at this
    exact this
  have HR : Hid (∀ W, Calls Try.prog 8 #[.int .i64 5, .int .i64 2] W fun e w' => e = .returned (.tuple #[.string (refT 5 2), .int .i64 0]) ∧ Below W.heap.size W w') := fun W => by
    have := ref_any W 5 2
    rw [refX] at this
    exact this
  have HN1 : Hid (∀ W, Calls Try.prog 12 #[.int .i64 232] W fun e w' => e = .returned (.int .i64 1) ∧ Below W.heap.size W w') := fun W => need_any W 232 (by omega)
  have HN2 : Hid (∀ W, Calls Try.prog 12 #[.int .i64 233] W fun e w' => e = .returned (.int .i64 2) ∧ Below W.heap.size W w') := fun W => need_any W 233 (by omega)
  have hz := refX_size
  have hE := fun W : World => page_eql W pX pX
  rw [Pg.same_self] at hE
  unfold Pg.v pX at hE
  simp only at hE
  generalize refT 5 2 = R at *
  go_enter Try.func5, Try.ntmps5
  go_wp2_with (first
    | (go_at_call 6; (with_reducible refine (HL.out _).mono ?_); rintro e w1 ⟨v, rfl, ho, hb⟩; have B1 := Lib.hid hb; have I1 := Lib.hid ho.pgs; obtain ⟨va, vc, rfl⟩ := (show ∃ a c, v = .slice a 1 c from ho.pgs.slice); clear ho hb)
    | (go_at_call 8; (with_reducible refine (HR.out _).mono ?_); rintro e w2 ⟨rfl, hb⟩; have B2 := Lib.hid (thenBelow B1.out hb); have I2 := Lib.hid (I1.out.below hb); clear hb)
    | (go_at_call 12; (with_reducible refine (HN1.out _).mono ?_); rintro e w3 ⟨rfl, hb⟩; have B3 := Lib.hid (thenBelow B2.out hb); have I3 := Lib.hid (I2.out.below hb); clear hb)
    | (go_at_call 12; (with_reducible refine (HN2.out _).mono ?_); rintro e w4 ⟨rfl, hb⟩; have B4 := Lib.hid (thenBelow B3.out hb); obtain ⟨b, off, rfl, hc⟩ := (I3.out.below hb).at_ (i := 0) (x := pX) rfl; obtain ⟨c0, c1, c2, c3⟩ := hc _ (Below.refl _ _); rw [Nat.zero_mul, Nat.add_zero] at c0 c1 c2 c3; change w4.cell? ⟨b, off, none⟩ = some (.int .i64 5) at c0; change w4.cell? ⟨b, off + 1, none⟩ = some (.int .i64 5) at c1; change w4.cell? ⟨b, off + 2, none⟩ = some (.int .i64 1) at c2; change w4.cell? ⟨b, off + 3, none⟩ = some (.string ⟨#[97, 98]⟩) at c3; clear hb hc))
  go_ret
  exact ⟨rfl, B4.out⟩

end Go.Proofs.Ytpbaodjmkdcihaa.P11
