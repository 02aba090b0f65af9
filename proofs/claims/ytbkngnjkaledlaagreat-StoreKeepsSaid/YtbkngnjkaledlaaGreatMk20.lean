/-
  Texts of the proof of SaidKeeps8, side by side: Dk28.
-/
import Derived.Test.YtbkngnjkaledlaaGreatMk19
import Derived.Deep.RegionHeld3
/-
  Package disk: Write: it is done. (Disk, part 28.)
-/
namespace Go.Proofs.YtbkngnjkaledlaaGreat.P4
open Go Go.RowKit Go.Lib Go.Maps Go.ChangeMaps Go.MapKept Go.Proofs.YtbkngnjkaledlaaGreat.P3

set_option maxRecDepth 100000 in
set_option maxHeartbeats 4000000 in
theorem write_over {w : World} {d : Nat} {K : Dk} (s : ByteArray) (i fb : Nat) (data : ByteArray) {z : Nat} (h : WFacts w d K s (some ⟨fb, 0, none⟩) z) (hd : data.size = 256) (hi : i < z) (hi2 : i ≤ 4000) (ht : K.turn < 9000) (hE : WEnd w d K s.data.toList i data fb (w.alloc (.cells #[.string s] 9))) :
    Calls Tryz.prog 41 #[.pointer (some ⟨d, 0, none⟩), .string s, .int .i64 i, .string data] w (OkPost w d K s.data.toList i data) := by
  have HC := Lib.hid h.check
  have HS := Lib.hid h.size
  have c0 := h.c0
  have hl := h.look
  have c3 := hE.c3
  have f3 := hE.f3
  have hlt := hE.lt
  have HE := Lib.hid hE.write
  have HCl : Hid (∀ W, Calls Tryz.prog 32 #[.string data] W fun e w' => e = .returned (.string data) ∧ Below W.heap.size W w') := fun W => clone_any data W (by omega)
  have HB : Hid (∀ w3, Below (((w.alloc (.cells #[.string s] 9)).setCell ⟨d, 3, none⟩ (.int .i64 ((K.turn : Int) + 1))).drew).heap.size (((w.alloc (.cells #[.string s] 9)).setCell ⟨d, 3, none⟩ (.int .i64 ((K.turn : Int) + 1))).drew) w3 → Below ((w.alloc (.cells #[.string s] 9)).setCell ⟨d, 3, none⟩ (.int .i64 ((K.turn : Int) + 1))).heap.size ((w.alloc (.cells #[.string s] 9)).setCell ⟨d, 3, none⟩ (.int .i64 ((K.turn : Int) + 1))) w3 ∧ w3.cell? ⟨d, 3, none⟩ = some (.int .i64 ((K.turn : Int) + 1))) := fun w3 hb => by
    have hb2 : Below ((w.alloc (.cells #[.string s] 9)).setCell ⟨d, 3, none⟩ (.int .i64 ((K.turn : Int) + 1))).heap.size ((w.alloc (.cells #[.string s] 9)).setCell ⟨d, 3, none⟩ (.int .i64 ((K.turn : Int) + 1))) w3 := thenBelow ((Below.refl _ _).drew) hb
    refine ⟨hb2, ?_⟩
    rw [hb2.cell (p := ⟨d, 3, none⟩) (by simpa [World.setCell] using hlt)]
    exact World.cell?_setCell_same _ _ _ c3
  have k1 : ((data.size : Int) != 256) = false := by simp; omega
  have b1 : (i : Int) < (z : Int) := by omega
  have b2 : (i : Int) ≤ 4000 := by omega
  have b3 : (0 : Int) ≤ (i : Int) := by omega
  have k2 : ((i : Int) == (z : Int)) = false := by simp; omega
  have t3 := World.cell?_setCell_same (w.alloc (.cells #[.string s] 9)) ⟨d, 3, none⟩ (.int .i64 ((K.turn : Int) + 1)) c3
  have bt : (K.turn : Int) < 9000 := by omega
  generalize K.turn = T at *
  clear h hd hE
  go_enter Tryz.func41, Tryz.ntmps41
  go_wp2_with (first
    | (go_at_call 92; (with_reducible refine HC.out.mono ?_); rintro e w' ⟨rfl, rfl⟩)
    | (go_at_call 93; (with_reducible refine HS.out.mono ?_); rintro e w' ⟨rfl, rfl⟩))
  go_region_held3 (fun w' => w'.cell? ⟨d, 3, none⟩ = some (.int .i64 ((T : Int) + 1))) (first | exact t3 | exact t4 | exact t5)
    ((first
      | (go_at_call 32; (with_reducible refine (HCl.out _).mono ?_); rintro e w3 ⟨rfl, hb3⟩; obtain ⟨hb4, t4⟩ := HB.out _ hb3)
      | (go_at_call 96; (with_reducible refine (HE.out _ hb4).mono ?_); rintro e w5 ⟨rfl, t5, hct⟩; have HCt := Lib.hid hct; clear hct)))
  all_goals
    go_wp2_with (go_at_call 97; (with_reducible refine HCt.out.mono ?_); rintro e w6 ⟨w1, K1, hs1, hw1, n, K2, rfl, hcnt⟩; have HFin : Hid (OkPost w d K s.data.toList i data (.returned (.int .i64 n)) w6) := ⟨w1, K1, hs1, hw1, n, K2, rfl, hcnt⟩; clear hs1 hw1 hcnt)
    go_ret
    exact HFin.out

/-- the turn is stored, data is cloned -/
theorem WEnd.clone {w W0 : World} {d : Nat} {K : Dk} {n : List UInt8} {i fb : Nat} {data : ByteArray} (h : WEnd w d K n i data fb W0) : ∀ w3, Below ((W0.setCell ⟨d, 3, none⟩ (.int .i64 ((K.turn : Int) + 1))).drew).heap.size ((W0.setCell ⟨d, 3, none⟩ (.int .i64 ((K.turn : Int) + 1))).drew) w3 →
    Below (W0.setCell ⟨d, 3, none⟩ (.int .i64 ((K.turn : Int) + 1))).heap.size (W0.setCell ⟨d, 3, none⟩ (.int .i64 ((K.turn : Int) + 1))) w3 ∧ w3.cell? ⟨d, 3, none⟩ = some (.int .i64 ((K.turn : Int) + 1)) := fun w3 hb => by
  have hb2 : Below (W0.setCell ⟨d, 3, none⟩ (.int .i64 ((K.turn : Int) + 1))).heap.size (W0.setCell ⟨d, 3, none⟩ (.int .i64 ((K.turn : Int) + 1))) w3 := thenBelow ((Below.refl _ _).drew) hb
  refine ⟨hb2, ?_⟩
  rw [hb2.cell (p := ⟨d, 3, none⟩) (by simpa [World.setCell] using h.lt)]
  exact World.cell?_setCell_same _ _ _ h.c3

set_option maxRecDepth 100000 in
set_option maxHeartbeats 4000000 in
theorem write_behind {w : World} {d : Nat} {K : Dk} (hD : DiskAt w d K) (s : ByteArray) (fb : Nat) (data : ByteArray) {z : Nat} (h : WFacts w d K s (some ⟨fb, 0, none⟩) z) (hd : data.size = 256) (hi2 : z ≤ 4000) (hf : fullOf K = false) (ht : K.turn < 9000) (hE : ∀ W0, Below w.heap.size w W0 → WEnd w d K s.data.toList z data fb W0) :
    Calls Tryz.prog 41 #[.pointer (some ⟨d, 0, none⟩), .string s, .int .i64 z, .string data] w (OkPost w d K s.data.toList z data) := by
  have HC := Lib.hid h.check
  have HS := Lib.hid h.size
  have c0 := h.c0
  have hl := h.look
  have HF := hD.wfull s
  rw [hf] at HF
  have HF := Lib.hid HF
  have HE := Lib.hid hE
  have HCl : Hid (∀ W, Calls Tryz.prog 32 #[.string data] W fun e w' => e = .returned (.string data) ∧ Below W.heap.size W w') := fun W => clone_any data W (by omega)
  have k1 : ((data.size : Int) != 256) = false := by simp; omega
  have b2 : (z : Int) ≤ 4000 := by omega
  have b3 : (0 : Int) ≤ (z : Int) := by omega
  have bt : (K.turn : Int) < 9000 := by omega
  generalize hT : K.turn = T at *
  have HT := Lib.hid hT
  clear h hd hE hD hf hT
  go_enter Tryz.func41, Tryz.ntmps41
  go_wp2_with (first
    | (go_at_call 92; (with_reducible refine HC.out.mono ?_); rintro e w' ⟨rfl, rfl⟩)
    | (go_at_call 93; (with_reducible refine HS.out.mono ?_); rintro e w' ⟨rfl, rfl⟩)
    | (go_at_call 94; (with_reducible refine HF.out.mono ?_); rintro e w2 ⟨rfl, hb⟩; have hwe := HE.out w2 hb; have c3 := hwe.c3; rw [HT.out] at c3; have f3 := hwe.f3; have hlt := hwe.lt; have HWE := Lib.hid hwe; have t3 := World.cell?_setCell_same w2 ⟨d, 3, none⟩ (.int .i64 ((T : Int) + 1)) c3; have HWr := hwe.write; rw [HT.out] at HWr; have HWr := Lib.hid HWr; have HB := hwe.clone; rw [HT.out] at HB; have HB := Lib.hid HB; clear hb hwe))
  go_region_held3 (fun w' => w'.cell? ⟨d, 3, none⟩ = some (.int .i64 ((T : Int) + 1))) (first | exact t3 | exact t4 | exact t5)
    ((first
      | (go_at_call 32; (with_reducible refine (HCl.out _).mono ?_); rintro e w3 ⟨rfl, hb3⟩; obtain ⟨hb4, t4⟩ := HB.out _ hb3)
      | (go_at_call 96; (with_reducible refine (HWr.out _ hb4).mono ?_); rintro e w5 ⟨rfl, t5, hct⟩; have HCt := Lib.hid hct; clear hct)))
  all_goals
    go_wp2_with (go_at_call 97; (with_reducible refine HCt.out.mono ?_); rintro e w6 ⟨w1, K1, hs1, hw1, n, K2, rfl, hcnt⟩; have HFin : Hid (OkPost w d K s.data.toList z data (.returned (.int .i64 n)) w6) := ⟨w1, K1, hs1, hw1, n, K2, rfl, hcnt⟩; clear hs1 hw1 hcnt)
    go_ret
    exact HFin.out

set_option maxRecDepth 100000 in
set_option maxHeartbeats 4000000 in
theorem write_fresh {w : World} {d : Nat} {K : Dk} (hD : DiskAt w d K) (s : ByteArray) (data : ByteArray) (h : WFacts w d K s none 0) (hd : data.size = 256) (hf : fullOf K = false) (h60 : K.files.length < 60) (ht : K.turn < 9000)
    (hM : ∀ W, Below w.heap.size w W → Calls Tryz.prog 95 #[.pointer (some ⟨d, 0, none⟩), .string s] W fun e w' => ∃ fb, e = .returned (.pointer (some ⟨fb, 0, none⟩)) ∧ WEnd w d K s.data.toList 0 data fb w') :
    Calls Tryz.prog 41 #[.pointer (some ⟨d, 0, none⟩), .string s, .int .i64 0, .string data] w (OkPost w d K s.data.toList 0 data) := by
  have HC := Lib.hid h.check
  have HS := Lib.hid h.size
  have c0 := h.c0
  have hl := h.look
  have HF := hD.wfull s
  rw [hf] at HF
  have HF := Lib.hid HF
  have HMk := Lib.hid hM
  have HCl : Hid (∀ W, Calls Tryz.prog 32 #[.string data] W fun e w' => e = .returned (.string data) ∧ Below W.heap.size W w') := fun W => clone_any data W (by omega)
  have HL : Hid (∀ W, Below w.heap.size w W → W.cell? ⟨d, 0, none⟩ = some (.map K.m) ∧ ∀ ty, (Builtin.len_ #[71] ty #[.map K.m]).run Tryz.prog W = .ok (.int .i64 (dir K.files).length) W) := fun W hW => ⟨cell_at (hD.below hW).blk 0, fun ty => (hD.below hW).map.len ty⟩
  obtain ⟨nl, hnl⟩ : ∃ nl, nl = (dir K.files).length := ⟨_, rfl⟩
  rw [← hnl] at HL
  have b60 : (nl : Int) < 60 := by rw [hnl]; simp [dir]; omega
  have k1 : ((data.size : Int) != 256) = false := by simp; omega
  have bt : (K.turn : Int) < 9000 := by omega
  generalize hT : K.turn = T at *
  have HT := Lib.hid hT
  clear h hd hM hD hf hT hnl h60
  go_enter Tryz.func41, Tryz.ntmps41
  go_wp2_with (first
    | (go_at_call 92; (with_reducible refine HC.out.mono ?_); rintro e w' ⟨rfl, rfl⟩)
    | (go_at_call 93; (with_reducible refine HS.out.mono ?_); rintro e w' ⟨rfl, rfl⟩)
    | (go_at_call 94; (with_reducible refine HF.out.mono ?_); rintro e w2 ⟨rfl, hb⟩; obtain ⟨q0, ql⟩ := HL.out w2 hb; have HBf := Lib.hid hb; clear hb)
    | (go_at_call 95; (with_reducible refine (HMk.out _ HBf.out).mono ?_); rintro e w4 ⟨fb, rfl, hwe⟩; have c3 := hwe.c3; rw [HT.out] at c3; have f3 := hwe.f3; have hlt := hwe.lt; have HWE := Lib.hid hwe; have t3 := World.cell?_setCell_same w4 ⟨d, 3, none⟩ (.int .i64 ((T : Int) + 1)) c3; have HWr := hwe.write; rw [HT.out, show (((0 : Nat) : Int)) = 0 from rfl] at HWr; have HWr := Lib.hid HWr; have HB := hwe.clone; rw [HT.out] at HB; have HB := Lib.hid HB; clear hwe))
  go_region_held3 (fun w' => w'.cell? ⟨d, 3, none⟩ = some (.int .i64 ((T : Int) + 1))) (first | exact t3 | exact t4 | exact t5)
    ((first
      | (go_at_call 32; (with_reducible refine (HCl.out _).mono ?_); rintro e w3 ⟨rfl, hb3⟩; obtain ⟨hb4, t4⟩ := HB.out _ hb3)
      | (go_at_call 96; (with_reducible refine (HWr.out _ hb4).mono ?_); rintro e w5 ⟨rfl, t5, hct⟩; have HCt := Lib.hid hct; clear hct)))
  all_goals
    go_wp2_with (go_at_call 97; (with_reducible refine HCt.out.mono ?_); rintro e w6 ⟨w1, K1, hs1, hw1, n, K2, rfl, hcnt⟩; have HFin : Hid (OkPost w d K s.data.toList 0 data (.returned (.int .i64 n)) w6) := ⟨w1, K1, hs1, hw1, n, K2, rfl, hcnt⟩; clear hs1 hw1 hcnt)
    go_ret
    exact HFin.out

end Go.Proofs.YtbkngnjkaledlaaGreat.P4
