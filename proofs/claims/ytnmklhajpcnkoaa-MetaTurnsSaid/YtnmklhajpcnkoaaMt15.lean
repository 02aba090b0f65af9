/-
  The statements' first call; plain and real: a meta is the same in both packages.
-/
import Derived.Test.YtnmklhajpcnkoaaMt14
namespace Go.Proofs.Ytnmklhajpcnkoaa.P6
open Go Go.RowKit Go.Lib Go.Proofs.Ytnmklhajpcnkoaa.P0 Go.Proofs.Ytnmklhajpcnkoaa.P2 Go.Proofs.Ytnmklhajpcnkoaa.P5

theorem bks_both (w : World) (m n : Mt) (t u : TypeId) : Bks w [(w.heap.size + 1, n.cells, u), (w.heap.size, m.cells, t)] ((w.alloc (.cells m.cells t)).alloc (.cells n.cells u)) := by
  have h := ((Bks.nil w).new m.cells t).new n.cells u
  have e : (w.alloc (.cells m.cells t)).heap.size = w.heap.size + 1 := by simp
  rw [e] at h
  exact h
theorem plain_any (w : World) (m : Mt) :
    Calls Try.prog 9 #[m.v] w fun r w' => r = .returned m.v ∧ Below w.heap.size w w' := by
  have st := bks_both w m Mt.zero 23 29
  have sf := bks_both w m m 23 29
  obtain ⟨x0, x1, x2, x3⟩ := m
  unfold Mt.v Mt.cells Mt.zero at *
  obtain ⟨c0, c1, c2, c3⟩ := cells4 (st.at_ 1 rfl)
  have SB := Lib.hid sf.below
  have SC := Lib.hid (sf.at_ 0 rfl)
  clear st sf
  go_enter Try.func9, Try.ntmps9
  go_wp2
  exact bodyPost_ret (rmeta_one rfl _ _ (w.heap.size + 1) _ rfl SC.out rfl) rfl ⟨rfl, SB.out⟩
theorem real_any (w : World) (m : Mt) :
    Calls Try.prog 17 #[m.v] w fun r w' => r = .returned m.v ∧ Below w.heap.size w w' := by
  have st := bks_both w m Mt.zero 29 23
  have sf := bks_both w m m 29 23
  obtain ⟨x0, x1, x2, x3⟩ := m
  unfold Mt.v Mt.cells Mt.zero at *
  obtain ⟨c0, c1, c2, c3⟩ := cells4 (st.at_ 1 rfl)
  have SB := Lib.hid sf.below
  have SC := Lib.hid (sf.at_ 0 rfl)
  clear st sf
  go_enter Try.func17, Try.ntmps17
  go_wp2
  exact bodyPost_ret (meta_one rfl _ _ (w.heap.size + 1) _ rfl SC.out rfl) rfl ⟨rfl, SB.out⟩

def m2 : Mt := ⟨2, 0, 0, 2⟩
def m3 : Mt := ⟨3, 0, 0, 2⟩
theorem m2_ok : m2.ok := by decide
theorem m3_ok : m3.ok := by decide
theorem stand_sector {m : Mt} (h : m.ok) (c : Int) : standM m.sector c = if m.tx % 2 = c then m else Mt.zero := by
  obtain ⟨e1, e2⟩ := meta_yes h
  unfold standM
  rw [e1, e2]
  by_cases k : m.tx % 2 = c
  · rw [if_pos ⟨rfl, k⟩, if_pos k]
  · rw [if_neg (fun q => k q.2), if_neg k]
theorem alive_ch : chM m2.sector m3.sector = m3 ∧ chE m2.sector m3.sector = 0 := by
  have e2 : standM m2.sector 0 = m2 := (stand_sector m2_ok 0).trans (if_pos (by decide))
  have e3 : standM m3.sector 1 = m3 := (stand_sector m3_ok 1).trans (if_pos (by decide))
  exact ch_y e3 (by decide) (by rw [e2]; decide)
set_option maxRecDepth 100000 in
theorem alive_any6 (w : World) :
    Calls Try.prog 6 #[] w fun r w' => r = .returned (.bool true) ∧ Below w.heap.size w w' := by
  have H2 := fun W => Lib.hid (mlay_ok W m2 m2_ok)
  have H3 := fun W => Lib.hid (mlay_ok W m3 m3_ok)
  have HC := fun W => Lib.hid (choose_any W m2.sector m3.sector)
  rw [alive_ch.1, alive_ch.2] at HC
  have HS := fun W => Lib.hid (slot_any W 3 (by decide) (by decide))
  have HF := fun W => Lib.hid (first_any W)
  have HE := fun W : World => meta_eql W (Mt.mk 1 0 0 2) (Mt.mk 1 0 0 2)
  rw [Mt.same_self] at HE
  generalize m2.sector = S2 at *
  generalize m3.sector = S3 at *
  have HK := Lib.hid (fun (w3 : World) => cells4 (new_at w3 (Mt.mk 3 0 0 2).cells 23))
  unfold m2 m3 Mt.v Mt.cells at *
  go_enter Try.func6, Try.ntmps6
  go_wp2_with (first
    | (go_at_call 7; (with_reducible refine (H2 _).out.mono ?_); rintro e w1 ⟨rfl, hb1⟩)
    | (go_at_call 7; (with_reducible refine (H3 _).out.mono ?_); rintro e w2 ⟨rfl, hb2⟩)
    | (go_at_call 15; (with_reducible refine (HC _).out.mono ?_); rintro e w3 ⟨rfl, hb3⟩; obtain ⟨a0, a1, a2, a3⟩ := HK.out w3; have hF := thenBelow (thenBelow hb1 hb2) hb3; have hG := P0.grow hF (.cells #[.int .i64 3, .int .i64 0, .int .i64 0, .int .i64 2] 23))
    | (go_at_call 12; (with_reducible refine (HS _).out.mono ?_); rintro e w4 ⟨rfl, rfl⟩)
    | (go_at_call 19; (with_reducible refine (HF _).out.mono ?_); rintro e w5 ⟨rfl, hb5⟩))
  go_ret
  exact ⟨rfl, thenBelow hG hb5⟩

end Go.Proofs.Ytnmklhajpcnkoaa.P6
