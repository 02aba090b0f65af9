/-
  Texts of the proof of SaidPlay8b.
-/
import Derived.Test.YtbkngnjkaledlaaGreatMp14
set_option maxHeartbeats 8000000
set_option maxRecDepth 100000
namespace Go.Proofs.YtbkngnjkaledlaaGreat.P4
open Go Go.RowKit Go.Lib P3
def errR (D : RM) (s : ByteArray) : Int := if D.off = true then 14 else if nameOk s = false then 1 else if atN D.fs s = none then 8 else 0
section
variable {lo : Nat} {w : World} {r : Nat} {D : RM}
theorem RAt.atNone (h : RAt lo w r D) (s : ByteArray) (hn : atN D.fs s = none) : ∀ W, RAt lo W r D → Calls Tryz.prog 46 #[.pointer (some ⟨r, 0, none⟩), .string s] W fun e w' => e = .returned (.int .i64 (-1)) ∧ W = w' := fun W hW => by
 have := hW.at_ s
 rw [hn] at this
 exact this
theorem RAt.atSome (h : RAt lo w r D) (s : ByteArray) {i : Nat} (hn : atN D.fs s = some i) : ∀ W, RAt lo W r D → Calls Tryz.prog 46 #[.pointer (some ⟨r, 0, none⟩), .string s] W fun e w' => e = .returned (.int .i64 i) ∧ W = w' := fun W hW => by
 have := hW.at_ s
 rw [hn] at this
 exact this
def sizeR (D : RM) (s : ByteArray) : Nat := if errR D s = 0 then ((atN D.fs s).bind fun i => D.fs[i]?.map fun f => f.now.length).getD 0 else 0
theorem RAt.size (h : RAt lo w r D) (s : ByteArray) : Calls Tryz.prog 21 #[.pointer (some ⟨r, 0, none⟩), .string s] w fun e w' => e = .returned (.tuple #[.int .i64 (sizeR D s), .int .i64 (errR D s)]) ∧ Below w.heap.size w w' := by
 have c2 : w.cell? ⟨r, 2, none⟩ = some (.bool D.off) := h.cell 2
 have HNm := Lib.hid (fun W => rdName_any W s)
 cases ho : D.off with
 | true =>
  have e1 : errR D s = 14 := if_pos ho
  have e2 : sizeR D s = 0 := by unfold sizeR; rw [e1]; rfl
  rw [e1, e2]
  rw [ho] at c2
  clear h ho e1 e2
  go_enter Tryz.func21, Tryz.ntmps21
  go_wp2
  go_ret2
  exact ⟨rfl, Below.refl _ _⟩
 | false =>
  rw [ho] at c2
  cases hnm : nameOk s with
  | false =>
   have e1 : errR D s = 1 := by unfold errR; rw [if_neg (by simp [ho]), if_pos hnm]
   have e2 : sizeR D s = 0 := by unfold sizeR; rw [e1]; rfl
   rw [e1, e2]
   rw [hnm] at HNm
   clear h ho e1 e2 hnm
   go_enter Tryz.func21, Tryz.ntmps21
   go_wp2_with (go_at_call 45; (with_reducible refine (HNm.out _).mono ?_); rintro e w' ⟨rfl, rfl⟩)
   go_ret2
   exact ⟨rfl, Below.refl _ _⟩
  | true =>
   rw [hnm] at HNm
   cases hat : atN D.fs s with
   | none =>
    have e1 : errR D s = 8 := by unfold errR; rw [if_neg (by simp [ho]), if_neg (by simp [hnm]), if_pos hat]
    have e2 : sizeR D s = 0 := by unfold sizeR; rw [e1]; rfl
    rw [e1, e2]
    have HA := Lib.hid (h.atNone s hat w h)
    clear h ho e1 e2 hnm hat
    go_enter Tryz.func21, Tryz.ntmps21
    go_wp2_with (first
     | (go_at_call 45; (with_reducible refine (HNm.out _).mono ?_); rintro e w' ⟨rfl, rfl⟩)
     | (go_at_call 46; (with_reducible refine HA.out.mono ?_); rintro e w' ⟨rfl, rfl⟩))
    go_ret2
    exact ⟨rfl, Below.refl _ _⟩
   | some i =>
    have e1 : errR D s = 0 := by unfold errR; rw [if_neg (by simp [ho]), if_neg (by simp [hnm]), if_neg (by simp [hat])]
    obtain ⟨f, hf, _⟩ := atN_some hat
    have e2 : sizeR D s = f.now.length := by unfold sizeR; rw [if_pos e1, hat]; simp [hf]
    rw [e1, e2]
    obtain ⟨a, c, hv, hc, hcell⟩ := h.files
    obtain ⟨g, rfl, _, hcc⟩ := hcell i f hf
    have hi := (List.getElem?_eq_some_iff.1 hf).1
    obtain ⟨a2, c2', e3, _⟩ := (h.txt f (List.mem_of_getElem? hf)).1.shape
    have hb := (Below.refl w.heap.size w).drew
    have c0 : w.cell? ⟨r, 0, none⟩ = some (.slice (some ⟨g, 0, none⟩) D.fs.length c) := by rw [← hv]; exact h.cell 0
    have cc : w.cell? ⟨g, i * 6 + 2, none⟩ = some (.slice a2 f.now.length c2') := by rw [← e3]; exact hcc 2 _ rfl
    have HA := Lib.hid (h.atSome s hat)
    have HW := Lib.hid h
    have HWd := Lib.hid (h.below hb)
    have hfew := h.few
    generalize D.fs.length = n at c0 hi hfew
    generalize f.now.length = m at cc
    have j0 : (0 : Int) ≤ (i : Int) := by omega
    have j1 : (i : Int) < (n : Int) := by omega
    clear h ho e1 e2 hnm hat hcell hcc hf e3 hv hc hb
    go_enter Tryz.func21, Tryz.ntmps21
    go_wp2_with (first
     | (go_at_call 45; (with_reducible refine (HNm.out _).mono ?_); rintro e w' ⟨rfl, rfl⟩)
     | (go_at_call 46; (with_reducible refine (HA.out _ HW.out).mono ?_); rintro e w' ⟨rfl, rfl⟩))
    go_region_held3 (fun W => W.cell? ⟨r, 0, none⟩ = some (.slice (some ⟨g, 0, none⟩) n c) ∧ W.cell? ⟨g, i * 6 + 2, none⟩ = some (.slice a2 m c2')) (exact ⟨c0, cc⟩) (first | (go_at_call 46; (with_reducible refine (HA.out _ (by first | exact HWd.out | exact HWa.out)).mono ?_); rintro e w' ⟨rfl, rfl⟩))
    go_wp2
    go_ret2
    exact ⟨rfl, (Below.refl w.heap.size w).drew⟩
def readR (D : RM) (s : ByteArray) (i : Int) : ByteArray × Int :=
 if errR D s = 0 then (match (atN D.fs s).bind fun k => D.fs[k]? with
  | some f => if 0 ≤ i ∧ i < f.now.length then (f.now.getD i.toNat ⟨#[]⟩, 0) else (⟨#[]⟩, 15)
  | none => (⟨#[]⟩, 0))
 else (⟨#[]⟩, errR D s)
theorem readR_err {D : RM} {s : ByteArray} {i : Int} (h : errR D s ≠ 0) : readR D s i = (⟨#[]⟩, errR D s) := if_neg h
theorem RAt.read (h : RAt lo w r D) (s : ByteArray) (z : Int) : Calls Tryz.prog 66 #[.pointer (some ⟨r, 0, none⟩), .string s, .int .i64 z] w fun e w' => e = .returned (.tuple #[.string (readR D s z).1, .int .i64 (readR D s z).2]) ∧ Below w.heap.size w w' := by
 have c2 : w.cell? ⟨r, 2, none⟩ = some (.bool D.off) := h.cell 2
 have HNm := Lib.hid (fun W => rdName_any W s)
 cases ho : D.off with
 | true =>
  have e1 : errR D s = 14 := if_pos ho
  rw [readR_err (by rw [e1]; decide), e1]
  rw [ho] at c2
  clear h ho e1
  go_enter Tryz.func66, Tryz.ntmps66
  go_wp2
  go_ret2
  exact ⟨rfl, Below.refl _ _⟩
 | false =>
  rw [ho] at c2
  cases hnm : nameOk s with
  | false =>
   have e1 : errR D s = 1 := by unfold errR; rw [if_neg (by simp [ho]), if_pos hnm]
   rw [readR_err (by rw [e1]; decide), e1]
   rw [hnm] at HNm
   clear h ho e1 hnm
   go_enter Tryz.func66, Tryz.ntmps66
   go_wp2_with (go_at_call 45; (with_reducible refine (HNm.out _).mono ?_); rintro e w' ⟨rfl, rfl⟩)
   go_ret2
   exact ⟨rfl, Below.refl _ _⟩
  | true =>
   rw [hnm] at HNm
   cases hat : atN D.fs s with
   | none =>
    have e1 : errR D s = 8 := by unfold errR; rw [if_neg (by simp [ho]), if_neg (by simp [hnm]), if_pos hat]
    rw [readR_err (by rw [e1]; decide), e1]
    have HA := Lib.hid (h.atNone s hat w h)
    clear h ho e1 hnm hat
    go_enter Tryz.func66, Tryz.ntmps66
    go_wp2_with (first
     | (go_at_call 45; (with_reducible refine (HNm.out _).mono ?_); rintro e w' ⟨rfl, rfl⟩)
     | (go_at_call 46; (with_reducible refine HA.out.mono ?_); rintro e w' ⟨rfl, rfl⟩))
    go_ret2
    exact ⟨rfl, Below.refl _ _⟩
   | some i =>
    have e1 : errR D s = 0 := by unfold errR; rw [if_neg (by simp [ho]), if_neg (by simp [hnm]), if_neg (by simp [hat])]
    obtain ⟨f, hf, _⟩ := atN_some hat
    have e2 : readR D s z = if 0 ≤ z ∧ z < f.now.length then (f.now.getD z.toNat ⟨#[]⟩, 0) else (⟨#[]⟩, 15) := by unfold readR; rw [if_pos e1, hat]; simp [hf]
    rw [e2]
    obtain ⟨a, c, hv, hc, hcell⟩ := h.files
    obtain ⟨g, rfl, _, hcc⟩ := hcell i f hf
    have hi := (List.getElem?_eq_some_iff.1 hf).1
    obtain ⟨a2, c2', e3, _, _, hel⟩ := (h.txt f (List.mem_of_getElem? hf)).1.shape
    obtain ⟨a3, c3, e4, _, _, _⟩ := (h.txt f (List.mem_of_getElem? hf)).2.shape
    have hb := (Below.refl w.heap.size w).drew
    have c0 : w.cell? ⟨r, 0, none⟩ = some (.slice (some ⟨g, 0, none⟩) D.fs.length c) := by rw [← hv]; exact h.cell 0
    have k0 : w.cell? ⟨g, i * 6, none⟩ = some (.string f.name) := hcc 0 _ rfl
    have k1 : w.cell? ⟨g, i * 6 + 1, none⟩ = some (.int .i64 f.id) := hcc 1 _ rfl
    have k2 : w.cell? ⟨g, i * 6 + 2, none⟩ = some (.slice a2 f.now.length c2') := by rw [← e3]; exact hcc 2 _ rfl
    have k3 : w.cell? ⟨g, i * 6 + 3, none⟩ = some (.slice a3 f.safe.length c3) := by rw [← e4]; exact hcc 3 _ rfl
    have k4 : w.cell? ⟨g, i * 6 + 4, none⟩ = some (.bool f.made) := hcc 4 _ rfl
    have k5 : w.cell? ⟨g, i * 6 + 5, none⟩ = some (.bool false) := hcc 5 _ rfl
    have HA := Lib.hid (h.atSome s hat)
    have HW := Lib.hid h
    have HWd := Lib.hid (h.below hb)
    have hfew := h.few
    have HEl := Lib.hid hel
    generalize D.fs.length = n at c0 hi hfew
    obtain ⟨now, hnow⟩ : ∃ now, now = f.now := ⟨_, rfl⟩
    obtain ⟨nm, hnm2⟩ : ∃ nm, nm = f.name := ⟨_, rfl⟩
    obtain ⟨id, hid2⟩ : ∃ id, id = f.id := ⟨_, rfl⟩
    obtain ⟨n3, hsv⟩ : ∃ n3, n3 = f.safe.length := ⟨_, rfl⟩
    obtain ⟨md, hmd⟩ : ∃ md, md = f.made := ⟨_, rfl⟩
    simp only [← hnow, ← hnm2, ← hid2, ← hsv, ← hmd] at k0 k1 k2 k3 k4 k5 HEl ⊢
    have HSt : Hid (∀ W, (W = w.drew ∨ W = (w.alloc (.cells #[.string ⟨#[]⟩, .int .i64 0, .slice none 0 0, .slice none 0 0, .bool false, .bool false] 101)).drew ∨ W = (w.alloc (.cells #[.string nm, .int .i64 id, .slice a2 now.length c2', .slice a3 n3 c3, .bool md, .bool false] 101)).drew) → W.cell? ⟨r, 0, none⟩ = some (.slice (some ⟨g, 0, none⟩) n c) ∧ W.cell? ⟨g, i * 6, none⟩ = some (.string nm) ∧ W.cell? ⟨g, i * 6 + 1, none⟩ = some (.int .i64 id) ∧ W.cell? ⟨g, i * 6 + 2, none⟩ = some (.slice a2 now.length c2') ∧ W.cell? ⟨g, i * 6 + 3, none⟩ = some (.slice a3 n3 c3) ∧ W.cell? ⟨g, i * 6 + 4, none⟩ = some (.bool md) ∧ W.cell? ⟨g, i * 6 + 5, none⟩ = some (.bool false)) := by
     intro W hW
     have hlt : ∀ p : Addr, (w.cell? p).isSome = true → W.cell? p = w.cell? p := fun p hp => by
      rcases hW with rfl | rfl | rfl
      ·rfl
      ·exact World.cell?_alloc_some w p _ hp
      ·exact World.cell?_alloc_some w p _ hp
     refine ⟨?_, ?_, ?_, ?_, ?_, ?_, ?_⟩
     ·rw [hlt _ (by rw [c0]; rfl)]; exact c0
     ·rw [hlt _ (by rw [k0]; rfl)]; exact k0
     ·rw [hlt _ (by rw [k1]; rfl)]; exact k1
     ·rw [hlt _ (by rw [k2]; rfl)]; exact k2
     ·rw [hlt _ (by rw [k3]; rfl)]; exact k3
     ·rw [hlt _ (by rw [k4]; rfl)]; exact k4
     ·rw [hlt _ (by rw [k5]; rfl)]; exact k5
    have HWa := Lib.hid (HW.out.below (show Below w.heap.size w (w.alloc (.cells #[.string ⟨#[]⟩, .int .i64 0, .slice none 0 0, .slice none 0 0, .bool false, .bool false] 101)).drew from (below_new w _).drew))
    have y0 : (w.alloc (.cells #[.string ⟨#[]⟩, .int .i64 0, .slice none 0 0, .slice none 0 0, .bool false, .bool false] 101)).drew.cell? ⟨w.heap.size, 0, none⟩ = some (.string ⟨#[]⟩) := cell_at (new_at w _ _) 0
    have m0 : (w.alloc (.cells #[.string ⟨#[]⟩, .int .i64 0, .slice none 0 0, .slice none 0 0, .bool false, .bool false] 101)).drew.frozen? ⟨w.heap.size, 0, none⟩ = false := free_at (new_at w _ _) 0
    have y1 : (w.alloc (.cells #[.string ⟨#[]⟩, .int .i64 0, .slice none 0 0, .slice none 0 0, .bool false, .bool false] 101)).drew.cell? ⟨w.heap.size, 1, none⟩ = some (.int .i64 0) := cell_at (new_at w _ _) 1
    have m1 : (w.alloc (.cells #[.string ⟨#[]⟩, .int .i64 0, .slice none 0 0, .slice none 0 0, .bool false, .bool false] 101)).drew.frozen? ⟨w.heap.size, 1, none⟩ = false := free_at (new_at w _ _) 1
    have y2 : (w.alloc (.cells #[.string ⟨#[]⟩, .int .i64 0, .slice none 0 0, .slice none 0 0, .bool false, .bool false] 101)).drew.cell? ⟨w.heap.size, 2, none⟩ = some (.slice none 0 0) := cell_at (new_at w _ _) 2
    have m2 : (w.alloc (.cells #[.string ⟨#[]⟩, .int .i64 0, .slice none 0 0, .slice none 0 0, .bool false, .bool false] 101)).drew.frozen? ⟨w.heap.size, 2, none⟩ = false := free_at (new_at w _ _) 2
    have y3 : (w.alloc (.cells #[.string ⟨#[]⟩, .int .i64 0, .slice none 0 0, .slice none 0 0, .bool false, .bool false] 101)).drew.cell? ⟨w.heap.size, 3, none⟩ = some (.slice none 0 0) := cell_at (new_at w _ _) 3
    have m3 : (w.alloc (.cells #[.string ⟨#[]⟩, .int .i64 0, .slice none 0 0, .slice none 0 0, .bool false, .bool false] 101)).drew.frozen? ⟨w.heap.size, 3, none⟩ = false := free_at (new_at w _ _) 3
    have y4 : (w.alloc (.cells #[.string ⟨#[]⟩, .int .i64 0, .slice none 0 0, .slice none 0 0, .bool false, .bool false] 101)).drew.cell? ⟨w.heap.size, 4, none⟩ = some (.bool false) := cell_at (new_at w _ _) 4
    have m4 : (w.alloc (.cells #[.string ⟨#[]⟩, .int .i64 0, .slice none 0 0, .slice none 0 0, .bool false, .bool false] 101)).drew.frozen? ⟨w.heap.size, 4, none⟩ = false := free_at (new_at w _ _) 4
    have y5 : (w.alloc (.cells #[.string ⟨#[]⟩, .int .i64 0, .slice none 0 0, .slice none 0 0, .bool false, .bool false] 101)).drew.cell? ⟨w.heap.size, 5, none⟩ = some (.bool false) := cell_at (new_at w _ _) 5
    have m5 : (w.alloc (.cells #[.string ⟨#[]⟩, .int .i64 0, .slice none 0 0, .slice none 0 0, .bool false, .bool false] 101)).drew.frozen? ⟨w.heap.size, 5, none⟩ = false := free_at (new_at w _ _) 5
    have j0 : (0 : Int) ≤ (i : Int) := by omega
    have j1 : (i : Int) < (n : Int) := by omega
    clear h ho e1 e2 hnm hat hcell hcc hf e3 e4 hv hc hb hel hnow hnm2 hid2 hsv hmd
    by_cases z0 : 0 ≤ z
    ·by_cases z1 : z < now.length
     ·have ez : (if 0 ≤ z ∧ z < (now.length : Int) then (now.getD z.toNat ⟨#[]⟩, (0 : Int)) else (⟨#[]⟩, 15)) = (now.getD z.toNat ⟨#[]⟩, 0) := if_pos ⟨z0, z1⟩
      rw [ez]
      obtain ⟨q, rfl⟩ : ∃ q : Nat, z = q := ⟨z.toNat, by omega⟩
      obtain ⟨s9, hs9⟩ : ∃ s9, now[q]? = some s9 := ⟨_, List.getElem?_eq_getElem (by omega)⟩
      obtain ⟨b9, rfl, k9⟩ := HEl.out q s9 hs9
      have e9 : Hid (now.getD (q : Int).toNat ⟨#[]⟩ = s9) := by rw [List.getD_eq_getElem?_getD, show (q : Int).toNat = q from rfl, hs9]; exact rfl
      have hlt9 := Lib.hid (World.block_lt_of_cell? w ⟨b9, q, none⟩ k9)
      have k9a : (w.alloc (.cells #[.string nm, .int .i64 id, .slice (some ⟨b9, 0, none⟩) now.length c2', .slice a3 n3 c3, .bool md, .bool false] 101)).drew.cell? ⟨b9, q, none⟩ = some (.string s9) := (World.cell?_alloc_some w ⟨b9, q, none⟩ _ (by rw [k9]; rfl)).trans k9
      have b1 : decide ((q : Int) < 0) = false := decide_eq_false (by omega)
      have b2 : decide ((now.length : Int) ≤ (q : Int)) = false := decide_eq_false (by omega)
      have b2' : decide (now.length ≤ q) = false := decide_eq_false (by omega)
      rw [e9.out]
      clear hs9 ez e9 HEl
      go_enter Tryz.func66, Tryz.ntmps66
      go_wp2_with (first
       | (go_at_call 45; (with_reducible refine (HNm.out _).mono ?_); rintro e w' ⟨rfl, rfl⟩)
       | (go_at_call 46; (with_reducible refine (HA.out _ HW.out).mono ?_); rintro e w' ⟨rfl, rfl⟩))
      go_region_held3 (fun W => W.cell? ⟨r, 0, none⟩ = some (.slice (some ⟨g, 0, none⟩) n c) ∧ W.cell? ⟨g, i * 6, none⟩ = some (.string nm) ∧ W.cell? ⟨g, i * 6 + 1, none⟩ = some (.int .i64 id) ∧ W.cell? ⟨g, i * 6 + 2, none⟩ = some (.slice (some ⟨b9, 0, none⟩) now.length c2') ∧ W.cell? ⟨g, i * 6 + 3, none⟩ = some (.slice a3 n3 c3) ∧ W.cell? ⟨g, i * 6 + 4, none⟩ = some (.bool md) ∧ W.cell? ⟨g, i * 6 + 5, none⟩ = some (.bool false)) (first | exact HSt.out _ (.inl rfl) | exact HSt.out _ (.inr (.inl rfl)) | exact HSt.out _ (.inr (.inr rfl))) (first | (go_at_call 46; (with_reducible refine (HA.out _ (by first | exact HWd.out | exact HWa.out)).mono ?_); rintro e w' ⟨rfl, rfl⟩))
      all_goals
       go_wp2
       go_ret2
       exact ⟨rfl, by first | exact (below_new w _).drew | exact (Below.refl w.heap.size w).drew.alloc (Nat.le_refl _) _⟩
     ·have ez : (if 0 ≤ z ∧ z < (now.length : Int) then (now.getD z.toNat ⟨#[]⟩, (0 : Int)) else (⟨#[]⟩, 15)) = (⟨#[]⟩, 15) := if_neg (fun q => z1 q.2)
      rw [ez]
      have b1 : decide (z < 0) = false := decide_eq_false (by omega)
      have b2 : decide ((now.length : Int) ≤ z) = true := decide_eq_true (by omega)
      clear ez HEl
      go_enter Tryz.func66, Tryz.ntmps66
      go_wp2_with (first
       | (go_at_call 45; (with_reducible refine (HNm.out _).mono ?_); rintro e w' ⟨rfl, rfl⟩)
       | (go_at_call 46; (with_reducible refine (HA.out _ HW.out).mono ?_); rintro e w' ⟨rfl, rfl⟩))
      go_region_held3 (fun W => W.cell? ⟨r, 0, none⟩ = some (.slice (some ⟨g, 0, none⟩) n c) ∧ W.cell? ⟨g, i * 6, none⟩ = some (.string nm) ∧ W.cell? ⟨g, i * 6 + 1, none⟩ = some (.int .i64 id) ∧ W.cell? ⟨g, i * 6 + 2, none⟩ = some (.slice a2 now.length c2') ∧ W.cell? ⟨g, i * 6 + 3, none⟩ = some (.slice a3 n3 c3) ∧ W.cell? ⟨g, i * 6 + 4, none⟩ = some (.bool md) ∧ W.cell? ⟨g, i * 6 + 5, none⟩ = some (.bool false)) (first | exact HSt.out _ (.inl rfl) | exact HSt.out _ (.inr (.inl rfl)) | exact HSt.out _ (.inr (.inr rfl))) (first | (go_at_call 46; (with_reducible refine (HA.out _ (by first | exact HWd.out | exact HWa.out)).mono ?_); rintro e w' ⟨rfl, rfl⟩))
      all_goals
       go_wp2
       go_ret2
       exact ⟨rfl, by first | exact (below_new w _).drew | exact (Below.refl w.heap.size w).drew.alloc (Nat.le_refl _) _⟩
    ·have ez : (if 0 ≤ z ∧ z < (now.length : Int) then (now.getD z.toNat ⟨#[]⟩, (0 : Int)) else (⟨#[]⟩, 15)) = (⟨#[]⟩, 15) := if_neg (fun q => z0 q.1)
     rw [ez]
     have b1 : decide (z < 0) = true := decide_eq_true (by omega)
     clear ez HEl
     go_enter Tryz.func66, Tryz.ntmps66
     go_wp2_with (first
      | (go_at_call 45; (with_reducible refine (HNm.out _).mono ?_); rintro e w' ⟨rfl, rfl⟩)
      | (go_at_call 46; (with_reducible refine (HA.out _ HW.out).mono ?_); rintro e w' ⟨rfl, rfl⟩))
     go_region_held3 (fun W => W.cell? ⟨r, 0, none⟩ = some (.slice (some ⟨g, 0, none⟩) n c) ∧ W.cell? ⟨g, i * 6, none⟩ = some (.string nm) ∧ W.cell? ⟨g, i * 6 + 1, none⟩ = some (.int .i64 id) ∧ W.cell? ⟨g, i * 6 + 2, none⟩ = some (.slice a2 now.length c2') ∧ W.cell? ⟨g, i * 6 + 3, none⟩ = some (.slice a3 n3 c3) ∧ W.cell? ⟨g, i * 6 + 4, none⟩ = some (.bool md) ∧ W.cell? ⟨g, i * 6 + 5, none⟩ = some (.bool false)) (first | exact HSt.out _ (.inl rfl) | exact HSt.out _ (.inr (.inl rfl)) | exact HSt.out _ (.inr (.inr rfl))) (first | (go_at_call 46; (with_reducible refine (HA.out _ (by first | exact HWd.out | exact HWa.out)).mono ?_); rintro e w' ⟨rfl, rfl⟩))
     all_goals
      go_wp2
      go_ret2
      exact ⟨rfl, by first | exact (below_new w _).drew | exact (Below.refl w.heap.size w).drew.alloc (Nat.le_refl _) _⟩
end
end Go.Proofs.YtbkngnjkaledlaaGreat.P4
namespace Go.Proofs.YtbkngnjkaledlaaGreat.P4
open Go Go.RowKit Go.Lib P3
structure RStep (lo : Nat) (w : World) (r : Nat) (D : RM) (w' : World) (E : RM) : Prop where
 at' : RAt lo w' r E
 own : ∀ k, E.own r k → D.own r k ∨ w.heap.size ≤ k
 foot : ∀ k, E.foot r k → D.foot r k ∨ w.heap.size ≤ k
 fr : Fr (D.own r) w w'
section
variable {lo : Nat} {w w' w'' : World} {r : Nat} {D E F : RM}
theorem RStep.below (h : RAt lo w r D) (k : Below w.heap.size w w') : RStep lo w r D w' D := ⟨h.below k, fun _ q => .inl q, fun _ q => .inl q, .of k⟩
theorem RStep.trans (h : RStep lo w r D w' E) (k : RStep lo w' r E w'' F) : RStep lo w r D w'' F := by
 refine ⟨k.at', fun i hi => ?_, fun i hi => ?_, ?_⟩
 ·rcases k.own i hi with q | q
  ·exact h.own i q
  ·exact .inr (Nat.le_trans h.fr.size q)
 ·rcases k.foot i hi with q | q
  ·exact h.foot i q
  ·exact .inr (Nat.le_trans h.fr.size q)
 ·refine ⟨k.fr.os.trans h.fr.os, k.fr.tape.trans h.fr.tape, k.fr.output.trans h.fr.output, Nat.le_trans h.fr.size k.fr.size, fun i hi hn => ?_⟩
  rw [k.fr.block i (Nat.lt_of_lt_of_le hi h.fr.size) (fun q => ?_), h.fr.block i hi hn]
  rcases h.own i q with q | q
  ·exact hn q
  ·omega
theorem RStep.only (h : RAt lo w r D) (j : Nat) (u : Value) (E : RM) (e1 : E.cells = D.cells.set j u) (e2 : E.lv = D.lv) (e3 : E.wv = D.wv) (e4 : E.fs = D.fs) (e5 : E.ws = D.ws) : RStep lo w r D (w.setCell ⟨r, j, none⟩ u) E :=
 ⟨h.own1 j u E e1 e2 e3 e4 e5, fun k hk => .inl (by unfold RM.own at hk ⊢; rwa [e2, e3] at hk), fun k hk => .inl (by unfold RM.foot RM.own at hk ⊢; rwa [e2, e3, e4] at hk),
  .only ((Only.refl r w).setCell j u) (.inl rfl)⟩
theorem RAt.restore (h : RAt lo w r D) : Calls Tryz.prog 61 #[.pointer (some ⟨r, 0, none⟩)] w fun e w' => e = .returned (.tuple #[]) ∧ RStep lo w r D w' { D with off := false } := by
 have c2 : w.cell? ⟨r, 2, none⟩ = some (.bool D.off) := h.cell 2
 have f2 := h.free 2
 have HS := Lib.hid (RStep.only h 2 (.bool false) { D with off := false } rfl rfl rfl rfl rfl)
 clear h
 go_enter Tryz.func61, Tryz.ntmps61
 go_wp2
 go_end0
 exact ⟨rfl, HS.out⟩
theorem RAt.arm (h : RAt lo w r D) (n : Int) (v : Value) (hv : ∃ a m c, v = .slice a m c) : Calls Tryz.prog 63 #[.pointer (some ⟨r, 0, none⟩), .int .i64 n, v] w fun e w' => e = .returned (.tuple #[]) ∧ RStep lo w r D w' { D with armed := decide (0 ≤ n), n := n, kv := v } := by
 obtain ⟨a, m, c, rfl⟩ := hv
 have c4 : w.cell? ⟨r, 4, none⟩ = some (.bool D.armed) := h.cell 4
 have c5 : w.cell? ⟨r, 5, none⟩ = some (.int .i64 D.n) := h.cell 5
 have c6 : w.cell? ⟨r, 6, none⟩ = some D.kv := h.cell 6
 have f4 := h.free 4
 have f5 := h.free 5
 have f6 := h.free 6
 have s1 := RStep.only h 4 (.bool (decide (0 ≤ n))) { D with armed := decide (0 ≤ n) } rfl rfl rfl rfl rfl
 have s2 := s1.trans (RStep.only s1.at' 5 (.int .i64 n) { D with armed := decide (0 ≤ n), n := n } rfl rfl rfl rfl rfl)
 have HS := Lib.hid (s2.trans (RStep.only s2.at' 6 (.slice a m c) { D with armed := decide (0 ≤ n), n := n, kv := .slice a m c } rfl rfl rfl rfl rfl))
 clear h s1 s2
 go_enter Tryz.func63, Tryz.ntmps63
 go_wp2
 go_end0
 exact ⟨rfl, HS.out⟩
theorem own_le {w : World} {base base' e z n : Nat} {v : Value} {xs : List Value} (h : w.ownsRow base e z v n xs) (hb : base' ≤ base) : w.ownsRow base' e z v n xs := by
 refine ⟨h.1, h.2.imp id ?_⟩
 rintro ⟨g, cap, cur, h1, h2, h3⟩
 exact ⟨g, cap, cur, h1, Nat.le_trans hb h2, h3⟩
theorem RAt.setWs {u : Value} {xs : List RW} (h : RAt lo w r D) (hb : Below w.heap.size w w') (ho : w'.ownsRow w.heap.size 129 3 u xs.length (xs.flatMap RW.cells)) (hl : xs.length ≤ 9000) :
  RStep lo w r D (w'.setCell ⟨r, 1, none⟩ u) { D with wv := u, ws := xs } := by
 have h' := h.below hb
 have hlt := (h.own_lt (.inl rfl : D.own r r)).2
 have hnew : ∀ k, u.ownBlock = some k → w.heap.size ≤ k := fun k hk => (owned_at ho hk).1
 have hoth : ∀ b, b ≠ r → (w'.setCell ⟨r, 1, none⟩ u).heap[b]? = w'.heap[b]? := fun b hb => Below.heap_setCell _ _ _ _ hb
 have hbl := set_at h'.blk 1 u
 have hx : D.cells.toArray.setIfInBounds 1 u = ({ D with wv := u, ws := xs } : RM).cells.toArray := by simp [RM.cells]
 rw [hx] at hbl
 have hap := h'.apart
 refine ⟨⟨hbl, h.lo_, ?_, ?_, ?_, h.few, hl, h.long⟩, ?_, ?_, ?_⟩
 ·exact owned_fr h'.lrow fun b hbb => hoth b (fun e => hap.1 (e ▸ hbb))
 ·exact owned_fr (own_le ho (Nat.le_trans h.lo_ (Nat.le_of_lt hlt))) fun b hbb => hoth b (fun e => by have := hnew b hbb; omega)
 ·intro f hf
  have ht := h'.txt f hf
  exact ⟨ht.1.fr fun b hbb => hoth b (fun e => h'.txt_own ht.1 hbb (.inl e)), ht.2.fr fun b hbb => hoth b (fun e => h'.txt_own ht.2 hbb (.inl e))⟩
 ·rintro k (hk | hk | hk)
  ·exact .inl (.inl hk)
  ·exact .inl (.inr (.inl hk))
  ·exact .inr (hnew k hk)
 ·rintro k ((hk | hk | hk) | hk)
  ·exact .inl (.inl (.inl hk))
  ·exact .inl (.inl (.inr (.inl hk)))
  ·exact .inr (hnew k hk)
  ·exact .inl (.inr hk)
 ·exact (Fr.of hb).trans (.only ((Only.refl r w').setCell 1 u) (.inl rfl))
theorem infoRW : (Tryz.prog.info? 129).map (fun i => (i.zero, i.size, i.bytes)) = some (some (.agg #[.int .i64 0, .int .i64 0, .string ⟨#[]⟩]), 3, 32) := by kernel_rfl
def keepW (id fr : Nat) (x : RW) : Bool := decide (x.file ≠ id) || decide (x.pos < fr)
theorem cells3_new (w : World) (x y z : Value) (t : TypeId) : ∀ (j : Nat) (u : Value), [x, y, z][j]? = some u → (w.alloc (.cells #[x, y, z] t)).cell? ((⟨w.heap.size, 0, none⟩ : Addr).add j) = some u := by
 intro j u hu
 rw [Go.WideShapes.add_plain, Nat.zero_add, cell_at (new_at w _ _)]
 rw [← hu]
 simp
theorem RAt.forget (h : RAt lo w r D) (id fr : Nat) (hid : id ≤ 1000000) (hfr : fr ≤ 1000000) (hbig : ∀ x ∈ D.ws, x.file ≤ 1000000 ∧ x.pos ≤ 1000000) :
  Calls Tryz.prog 49 #[.pointer (some ⟨r, 0, none⟩), .int .i64 id, .int .i64 fr] w fun e w' => e = .returned (.tuple #[]) ∧ ∃ u, RStep lo w r D w' { D with wv := u, ws := D.ws.filter (keepW id fr) } := by
 obtain ⟨i0, hi, hz0, hz1, hz2⟩ := info_parts infoRW
 obtain ⟨z, hz⟩ : ∃ z, z = Value.agg #[.int .i64 0, .int .i64 0, .string ⟨#[]⟩] := ⟨_, rfl⟩
 rw [← hz] at hz0
 have HZ : Hid (z.cells.size = 3) := by rw [hz]; exact rfl
 clear hz
 have hfew := h.few2
 have HC : Hid (∀ W, Below w.heap.size w W → ∃ a c, D.wv = .slice a D.ws.length c ∧ D.ws.length ≤ c ∧ (W.cell? ⟨r, 1, none⟩ = some (.slice a D.ws.length c) ∧ W.frozen? ⟨r, 1, none⟩ = false) ∧ ∀ (i : Nat) (x : RW), D.ws[i]? = some x → ∃ g, a = some ⟨g, 0, none⟩ ∧ g < w.heap.size ∧ W.cell? ⟨g, i * 3, none⟩ = some (.int .i64 x.file) ∧ W.cell? ⟨g, i * 3 + 1, none⟩ = some (.int .i64 x.pos) ∧ W.cell? ⟨g, i * 3 + 2, none⟩ = some (.string x.data)) := by
  intro W hW
  obtain ⟨a, c, hv, hc, hx⟩ := (h.below hW).writes
  refine ⟨a, c, hv, hc, ⟨by rw [← hv]; exact (h.below hW).cell 1, (h.below hW).free 1⟩, fun i x hi => ?_⟩
  obtain ⟨g, e, hb, hcc⟩ := hx i x hi
  exact ⟨g, e, (h.own_lt (.inr (.inr hb))).2, hcc 0 _ rfl, hcc 1 _ rfl, hcc 2 _ rfl⟩
 have HE : Hid (∀ W u (xs : List RW), Below w.heap.size w W → W.ownsRow w.heap.size 129 3 u xs.length (xs.flatMap RW.cells) → xs.length ≤ 9000 → RStep lo w r D (W.setCell ⟨r, 1, none⟩ u) { D with wv := u, ws := xs }) := fun W u xs hb ho hl => h.setWs hb ho hl
 obtain ⟨a, c, hv, hc, ⟨k1, k2⟩, hx⟩ := HC.out w (Below.refl _ _)
 have hrl := Lib.hid ((h.own_lt (.inl rfl : D.own r r)).2)
 obtain ⟨ws, hws⟩ : ∃ ws, ws = D.ws := ⟨_, rfl⟩
 have HBig := Lib.hid (hws ▸ hbig)
 rw [← hws] at k1 hfew hv ⊢
 have HC2 : Hid (∀ W, Below w.heap.size w W → (W.cell? ⟨r, 1, none⟩ = some (.slice a ws.length c) ∧ W.frozen? ⟨r, 1, none⟩ = false) ∧ ∀ (i : Nat) (x : RW), ws[i]? = some x → ∃ g, a = some ⟨g, 0, none⟩ ∧ g < w.heap.size ∧ W.cell? ⟨g, i * 3, none⟩ = some (.int .i64 x.file) ∧ W.cell? ⟨g, i * 3 + 1, none⟩ = some (.int .i64 x.pos) ∧ W.cell? ⟨g, i * 3 + 2, none⟩ = some (.string x.data)) := by
  intro W hW
  obtain ⟨a', c', hv', _, q1, q2⟩ := HC.out W hW
  rw [← hws, hv] at hv'
  simp only [Value.slice.injEq, true_and] at hv'
  obtain ⟨rfl, rfl⟩ := hv'
  rw [hws]
  exact ⟨q1, q2⟩
 clear hx HC h hbig hv hws hc
 go_enter Tryz.func49, Tryz.ntmps49
 go_wp2
 go_loopw [6, 7] (fun u vi wr => ∃ j : Nat, j ≤ ws.length ∧ vi = .int .i64 j ∧ Hid (Below w.heap.size w wr) ∧ Hid (wr.ownsRow w.heap.size 129 3 u ((ws.take j).filter (keepW id fr)).length (((ws.take j).filter (keepW id fr)).flatMap RW.cells))) (fun u vi _ => ws.length - (RowKit.intOf vi).toNat)
 case atStart => exact ⟨0, Nat.zero_le _, rfl, Below.refl _ _, World.ownsRow_nil _ _ _ _⟩
 case round =>
  obtain ⟨j, hj, rfl, hB, hR⟩ := hrel
  obtain ⟨⟨q1, q2⟩, hcc⟩ := HC2.out wr hB.out
  clear k1 k2
  by_cases hjl : j < ws.length
  ·obtain ⟨x, hx⟩ : ∃ x, ws[j]? = some x := ⟨_, List.getElem?_eq_getElem hjl⟩
   obtain ⟨g, rfl, hg, d0, d1, d2⟩ := hcc j x hx
   have hxb := HBig.out x (List.mem_of_getElem? hx)
   have hst : (ws.take (j + 1)).filter (keepW id fr) = (ws.take j).filter (keepW id fr) ++ (if keepW id fr x = true then [x] else []) := by
    rw [List.take_add_one, hx, List.filter_append]
    cases hk : keepW id fr x <;> simp [hk]
   have HST := Lib.hid hst
   have hlen : ((ws.take j).filter (keepW id fr)).length ≤ 9000 := by
    have h1 := List.length_filter_le (keepW id fr) (ws.take j)
    rw [List.length_take] at h1
    omega
   have b1 : decide ((j : Int) < (ws.length : Int)) = true := decide_eq_true (by omega)
   have b1' : decide (j < ws.length) = true := decide_eq_true hjl
   have j0 : (0 : Int) ≤ (j : Int) := by omega
   have j1 : (j : Int) < (ws.length : Int) := by omega
   have HX := Lib.hid (rfl : x = x)
   obtain ⟨xt, xf, xp, xd⟩ := x
   simp only at d0 d1 d2 hxb
   clear hst hcc hx
   by_cases hk : keepW id fr ⟨xt, xf, xp, xd⟩ = true
   ·have HK := Lib.hid hk
    by_cases hxf : xf = id
    ·have e1 : ((xf : Int) != (id : Int)) = false := by simp [hxf]
     have e2 : xp < fr := by
      unfold keepW at hk
      simpa [hxf] using hk
     have e3 : decide ((xp : Int) < (fr : Int)) = true := decide_eq_true (by omega)
     have e3' : decide (xp < fr) = true := decide_eq_true e2
     clear hk hxf
     go_wp2_with (at_builtin; refine wpList_append_own _ rfl _ _ 28 rfl w.heap.size 129 i0 z 3 32 Tryz.underlying28 hi hz0 hz1 hz2 HZ.out (by decide) _ ((ws.take j).filter (keepW id fr)).length (((ws.take j).filter (keepW id fr)).flatMap RW.cells) rfl (World.ownsRow.alloc (w := wr) hR.out _) ⟨wr.heap.size, 0, none⟩ 1 1 [.int .i64 xf, .int .i64 xp, .string xd] rfl rfl ?c1 ?c2 ?c3 ?c4 ?c5 ?_)
     first | (case c1 => exact cells3_new wr _ _ _ _) | skip
     case c2 => first | exact ⟨rfl, rfl, rfl⟩ | (intro u hu; simp at hu; rcases hu with rfl | rfl | rfl <;> rfl)
     case c3 => unfold maxLen; omega
     case c4 => omega
     case c5 => have := hB.out.size; simp; omega
     intro v' w4 hown' hgrow _
     have hB4 : Hid (Below w.heap.size w w4) := (grow hB.out _).grown hgrow (by have := hB.out.size; simp; omega) (fun k hk => (hR.out.lt k hk).1)
     have hR4 : Hid (w4.ownsRow w.heap.size 129 3 v' ((ws.take (j + 1)).filter (keepW id fr)).length (((ws.take (j + 1)).filter (keepW id fr)).flatMap RW.cells)) := by
      rw [HST.out, if_pos HK.out, List.length_append, List.flatMap_append]
      exact hown'
     clear hown' hgrow hR hB
     go_wp2
     go_roundw
     case rel => exact ⟨j + 1, by omega, by go_num, hB4, hR4⟩
     case measure => simp [RowKit.intOf]; omega
    ·have e1 : ((xf : Int) != (id : Int)) = true := by rw [bne_iff_ne]; omega
     clear hk hxf
     go_wp2_with (at_builtin; refine wpList_append_own _ rfl _ _ 28 rfl w.heap.size 129 i0 z 3 32 Tryz.underlying28 hi hz0 hz1 hz2 HZ.out (by decide) _ ((ws.take j).filter (keepW id fr)).length (((ws.take j).filter (keepW id fr)).flatMap RW.cells) rfl (World.ownsRow.alloc (w := wr) hR.out _) ⟨wr.heap.size, 0, none⟩ 1 1 [.int .i64 xf, .int .i64 xp, .string xd] rfl rfl ?c1 ?c2 ?c3 ?c4 ?c5 ?_)
     first | (case c1 => exact cells3_new wr _ _ _ _) | skip
     case c2 => first | exact ⟨rfl, rfl, rfl⟩ | (intro u hu; simp at hu; rcases hu with rfl | rfl | rfl <;> rfl)
     case c3 => unfold maxLen; omega
     case c4 => omega
     case c5 => have := hB.out.size; simp; omega
     intro v' w4 hown' hgrow _
     have hB4 : Hid (Below w.heap.size w w4) := (grow hB.out _).grown hgrow (by have := hB.out.size; simp; omega) (fun k hk => (hR.out.lt k hk).1)
     have hR4 : Hid (w4.ownsRow w.heap.size 129 3 v' ((ws.take (j + 1)).filter (keepW id fr)).length (((ws.take (j + 1)).filter (keepW id fr)).flatMap RW.cells)) := by
      rw [HST.out, if_pos HK.out, List.length_append, List.flatMap_append]
      exact hown'
     clear hown' hgrow hR hB
     go_wp2
     go_roundw
     case rel => exact ⟨j + 1, by omega, by go_num, hB4, hR4⟩
     case measure => simp [RowKit.intOf]; omega
   ·have HK := Lib.hid hk
    have e1 : ((xf : Int) != (id : Int)) = false := by
     unfold keepW at hk
     simp at hk
     simp [hk.1]
    have e3 : decide ((xp : Int) < (fr : Int)) = false := by
     unfold keepW at hk
     simp at hk
     exact decide_eq_false (by omega)
    have e3' : decide (xp < fr) = false := by
     unfold keepW at hk
     simp at hk
     exact decide_eq_false (by omega)
    clear hk
    go_wp2
    go_roundw
    case rel => exact ⟨j + 1, by omega, by go_num, hB, by rw [HST.out, if_neg HK.out, List.append_nil]; exact hR⟩
    case measure => simp [RowKit.intOf]; omega
  ·have b1 : decide ((j : Int) < (ws.length : Int)) = false := decide_eq_false (by omega)
   have b1' : decide (j < ws.length) = false := decide_eq_false hjl
   have hR2 := hR.out
   rw [List.take_of_length_le (by omega)] at hR2
   have hl2 := List.length_filter_le (keepW id fr) ws
   obtain ⟨a9, n9, c9, rfl⟩ : ∃ a n c, u6 = .slice a n c := by
    rcases hR2.2 with ⟨rfl, _⟩ | ⟨g, cap, cur, rfl, _⟩ <;> exact ⟨_, _, _, rfl⟩
   have HF := Lib.hid (HE.out wr _ _ hB.out hR2 (by omega))
   clear hR2 hl2 hcc hB hR
   go_wp2
   go_end0
   exact ⟨rfl, _, HF.out⟩
end
end Go.Proofs.YtbkngnjkaledlaaGreat.P4
namespace Go.Proofs.YtbkngnjkaledlaaGreat.P4
open Go Go.RowKit Go.Lib P3
section
variable {lo : Nat} {w w' w'' : World} {r : Nat} {D E F : RM}
theorem list_set_self {α : Type} {l : List α} {i : Nat} {a : α} (h : l[i]? = some a) : l.set i a = l := by
 apply List.ext_getElem?
 intro j
 rw [List.getElem?_set]
 by_cases e : i = j
 ·subst e
  rw [if_pos rfl, h]
  simp [(List.getElem?_eq_some_iff.1 h).1]
 ·rw [if_neg e]
theorem RAt.setF {i j : Nat} {f f' : MF} {u : Value} {g : Nat} (h : RAt lo w r D) (hb : Below w.heap.size w w') (hi : D.fs[i]? = some f) (hg : D.lv.ownBlock = some g) (hj : j < 6) (hc : f'.cells = f.cells.set j u)
  (ht : Txt w' f'.nv f'.now ∧ Txt w' f'.sv f'.safe) (hl : f'.now.length ≤ 4001 ∧ f'.safe.length ≤ 4001) (hf : ∀ k, f'.nv.ownBlock = some k ∨ f'.sv.ownBlock = some k → D.foot r k ∨ w.heap.size ≤ k) :
  RStep lo w r D (w'.setCell ⟨g, i * 6 + j, none⟩ u) { D with fs := D.fs.set i f' } := by
 have h' := h.below hb
 have hap := h'.apart
 have hoth : ∀ b, b ≠ g → (w'.setCell ⟨g, i * 6 + j, none⟩ u).heap[b]? = w'.heap[b]? := fun b hb => Below.heap_setCell _ _ _ _ hb
 have hgr : g ≠ r := fun e => hap.1 (e ▸ hg)
 have hil := (List.getElem?_eq_some_iff.1 hi).1
 have hlen : (D.fs.set i f').length = D.fs.length := List.length_set ..
 have hin : ∀ x ∈ D.fs.set i f', x = f' ∨ x ∈ D.fs := fun x hx => (List.mem_or_eq_of_mem_set hx).symm
 have htx : ∀ x ∈ D.fs.set i f', Txt w' x.nv x.now ∧ Txt w' x.sv x.safe := fun x hx => by
  rcases hin x hx with rfl | q
  ·exact ht
  ·exact h'.txt x q
 have hgo : ∀ v l, Txt w' v l → ∀ b, v.ownBlock = some b → b ≠ g := fun v l hv b hbb e => h'.txt_own hv hbb (.inr (.inl (e ▸ hg)))
 refine ⟨⟨?_, h.lo_, ?_, ?_, ?_, by show (D.fs.set i f').length ≤ 60; rw [hlen]; exact h.few, h.few2, ?_⟩, fun k hk => .inl hk, ?_, ?_⟩
 ·rw [hoth r (fun e => hgr e.symm)]; exact h'.blk
 ·show World.ownsRow _ lo 101 6 D.lv (D.fs.set i f').length ((D.fs.set i f').flatMap MF.cells)
  rw [hlen, flat_set MF.six D.fs i j f f' u hi hj hc]
  have hr := h'.lrow
  refine ⟨by rw [List.length_set]; exact hr.1, ?_⟩
  rcases hr.2 with ⟨e, _⟩ | ⟨g', cap, cur, e1, e2, e3, e4, e5, e6, e7⟩
  ·rw [e] at hg; cases hg
  ·obtain rfl : g' = g := by rw [e1] at hg; simpa [Value.ownBlock] using hg
   refine .inr ⟨g', cap, cur.setIfInBounds (i * 6 + j) u, e1, e2, set_at e3 _ u, e4, e5, by simpa using e6, ?_⟩
   rw [Array.toList_setIfInBounds, List.take_set, e7]
 ·exact owned_fr h'.wrow fun b hbb => hoth b (fun e => hap.2.2 g hg (e ▸ hbb))
 ·intro x hx
  have hx' : x ∈ D.fs.set i f' := hx
  exact ⟨(htx x hx').1.fr fun b hbb => hoth b (hgo _ _ (htx x hx').1 b hbb), (htx x hx').2.fr fun b hbb => hoth b (hgo _ _ (htx x hx').2 b hbb)⟩
 ·intro x hx
  have hx' : x ∈ D.fs.set i f' := hx
  rcases hin x hx' with rfl | q
  ·exact hl
  ·exact h.long x q
 ·rintro k (hk | ⟨x, hx, hk⟩)
  ·exact .inl (.inl hk)
  ·have hx' : x ∈ D.fs.set i f' := hx
   rcases hin x hx' with rfl | q
   ·exact hf k hk
   ·exact .inl (.inr ⟨x, q, hk⟩)
 ·exact (Fr.of hb).trans (.only ((Only.refl g w').setCell _ u) (.inr (.inl hg)))
def tripsM (κ : Nat → Nat) (ws : List RW) (id : Nat) : List (Nat × Nat × ByteArray) := (ws.zipIdx.filter fun p => decide (p.1.file = id)).map fun p => (κ p.2, p.1.pos, p.1.data)
def RM.lost (D : RM) (κ : Nat → Nat) : Nat := (List.range D.ws.length).countP fun i => decide (κ i < 256)
def MF.stays (f : MF) (κ : Nat → Nat) (ws : List RW) : Bool := f.made || (tripsM κ ws f.id).any fun x => decide (x.1 ≠ 0)
def MF.core (f : MF) : ByteArray × Nat × List ByteArray × List ByteArray × Bool := (f.name, f.id, f.now, f.safe, f.made)
def MF.left (κ : Nat → Nat) (ws : List RW) (f : MF) : ByteArray × Nat × List ByteArray × List ByteArray × Bool := (f.name, f.id, keepAll f.safe (tripsM κ ws f.id), keepAll f.safe (tripsM κ ws f.id), true)
structure CrM (D E : RM) (κ : Nat → Nat) : Prop where
 files : E.fs.map MF.core = (D.fs.filter fun f => f.stays κ D.ws).map (MF.left κ D.ws)
 ws : E.ws = []
 off : E.off = true
 armed : E.armed = false
 room : E.room = D.room
 n : E.n = D.n
 kv : E.kv = D.kv
 ids : E.ids = D.ids
def kapM (ks : List Int) (i : Nat) : Nat := clampI (ks.getD i 0)
def CrashP (lo : Nat) (w : World) (r : Nat) (D : RM) (ks : List Int) (e : Ending) (w' : World) : Prop := ∃ E, e = .returned (.int .i64 (D.lost (kapM ks))) ∧ RStep lo w r D w' E ∧ CrM D E (kapM ks)
def RM.sync (D : RM) (i : Nat) (f : MF) (u : Value) : RM := { D with fs := D.fs.set i { f with safe := f.now, sv := f.nv, made := true }, wv := u, ws := D.ws.filter (keepW f.id 0) }
inductive SyncR (lo : Nat) (w : World) (r : Nat) (D : RM) (s : ByteArray) (ks : List Int) (e : Ending) (w' : World) : Prop
 | err (h : errR D s ≠ 0) (he : e = .returned (.int .i64 (errR D s))) (hb : Below w.heap.size w w')
 | falls (h : errR D s = 0) (hf : D.fallsB = true) (he : e = .returned (.int .i64 14)) (n : Ending) (hc : CrashP lo w r D ks n w')
 | done (h : errR D s = 0) (hf : D.fallsB = false) (he : e = .returned (.int .i64 0)) (i : Nat) (f : MF) (hat : atN D.fs s = some i) (hi : D.fs[i]? = some f) (u : Value) (hs : RStep lo w r D w' (D.count.sync i f u))
theorem RStep.count (h : RAt lo w r D) (h' : RAt lo w' r D.count) (ho : Only r w w') : RStep lo w r D w' D.count := by
 have e : D.count.lv = D.lv ∧ D.count.wv = D.wv ∧ D.count.fs = D.fs := by unfold RM.count; split <;> exact ⟨rfl, rfl, rfl⟩
 refine ⟨h', fun k hk => .inl ?_, fun k hk => .inl ?_, .only ho (.inl rfl)⟩
 ·unfold RM.own at hk ⊢; rwa [e.1, e.2.1] at hk
 ·unfold RM.foot RM.own at hk ⊢; rwa [e.1, e.2.1, e.2.2] at hk
theorem count_falls (h : D.fallsB = true) : D.count = D := by
 unfold RM.fallsB at h
 unfold RM.count
 rw [if_neg]
 rintro ⟨_, q⟩
 simp [q] at h
theorem count_fs (D : RM) : D.count.fs = D.fs ∧ D.count.ws = D.ws ∧ D.count.off = D.off ∧ D.count.lv = D.lv ∧ D.count.kv = D.kv := by
 unfold RM.count
 split <;> exact ⟨rfl, rfl, rfl, rfl, rfl⟩
end
end Go.Proofs.YtbkngnjkaledlaaGreat.P4
