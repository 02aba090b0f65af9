/-
  Texts of the proof of SaidPlays, side by side: Rd16.
-/
import Derived.Test.YtaabepiddbnggaaGreatMp28
/-
  The document's disk, part 16: Twin.
-/
namespace Go.Proofs.YtaabepiddbnggaaGreat.P4
open Go Go.RowKit Go.Lib Go.Proofs.YtaabepiddbnggaaGreat.P3

section
variable {lo : Nat} {w w' w'' : World} {r : Nat} {D E C : RM}
/-- another disk that is the same: its own blocks are new; it reads the same sectors -/
def TwinM (w : World) (r : Nat) (D : RM) (e : Ending) (w' : World) : Prop := ∃ (u : Nat) (lv wv : Value), e = .returned (.pointer (some ⟨u, 0, none⟩)) ∧ RAt w.heap.size w' u { D with lv := lv, wv := wv } ∧ (∀ k, ({ D with lv := lv, wv := wv } : RM).own u k → w.heap.size ≤ k) ∧ Below w.heap.size w w'
theorem ints_one (l : List RW) : ∀ u ∈ l.flatMap RW.cells, u.oneCell' = true := by
  intro u hu
  obtain ⟨f, hf, hu⟩ := List.mem_flatMap.1 hu
  simp only [RW.cells, List.mem_cons, List.not_mem_nil, or_false] at hu
  rcases hu with rfl | rfl | rfl <;> rfl
set_option maxRecDepth 100000 in
set_option maxHeartbeats 2000000 in
theorem RAt.twin (h : RAt lo w r D) (hkv : ∃ a m c, D.kv = .slice a m c) : Calls Tryz.prog 8 #[.pointer (some ⟨r, 0, none⟩)] w (TwinM w r D) := by
  obtain ⟨ka, km, kc, ekv⟩ := hkv
  obtain ⟨fa, fc, hv1, hv2, hv3⟩ := h.files
  obtain ⟨wa, wc, hw1, hw2, hw3⟩ := h.writes
  obtain ⟨i2, hi2, hz20, hz21, hz22⟩ := info_parts infoRF
  obtain ⟨z2, hz2⟩ : ∃ z, z = Value.agg #[.string ⟨#[]⟩, .int .i64 0, .slice none 0 0, .slice none 0 0, .bool false, .bool false] := ⟨_, rfl⟩
  rw [← hz2] at hz20
  have HZ2 : Hid (z2.cells.size = 6) := by rw [hz2]; exact rfl
  obtain ⟨i3, hi3, hz30, hz31, hz32⟩ := info_parts infoRW
  obtain ⟨z3, hz3⟩ : ∃ z, z = Value.agg #[.int .i64 0, .int .i64 0, .string ⟨#[]⟩] := ⟨_, rfl⟩
  rw [← hz3] at hz30
  have HZ3 : Hid (z3.cells.size = 3) := by rw [hz3]; exact rfl
  clear hz2 hz3
  have hfew := h.few
  have hfew2 := h.few2
  have c0 : w.cell? ⟨r, 0, none⟩ = some (.slice fa D.fs.length fc) := by rw [← hv1]; exact h.cell 0
  have c1 : w.cell? ⟨r, 1, none⟩ = some (.slice wa D.ws.length wc) := by rw [← hw1]; exact h.cell 1
  have c2 : w.cell? ⟨r, 2, none⟩ = some (.bool D.off) := h.cell 2
  have c3 : w.cell? ⟨r, 3, none⟩ = some (.int .i64 D.room) := h.cell 3
  have c4 : w.cell? ⟨r, 4, none⟩ = some (.bool D.armed) := h.cell 4
  have c5 : w.cell? ⟨r, 5, none⟩ = some (.int .i64 D.n) := h.cell 5
  have c6 : w.cell? ⟨r, 6, none⟩ = some (.slice ka km kc) := by rw [← ekv]; exact h.cell 6
  have c7 : w.cell? ⟨r, 7, none⟩ = some (.int .i64 D.ids) := h.cell 7
  have hrl := lt_of_block h.blk
  have HR := Lib.hid h
  have HV1 := Lib.hid hv1
  have HW1 := Lib.hid hw1
  have HKV := Lib.hid ekv
  have HLc : Hid (∀ X, Below w.heap.size w X → (∀ A, fa = some A → ∀ (j : Nat) (v : Value), (D.fs.flatMap MF.cells)[j]? = some v → X.cell? (A.add j) = some v) ∧ (∀ A, wa = some A → ∀ (j : Nat) (v : Value), (D.ws.flatMap RW.cells)[j]? = some v → X.cell? (A.add j) = some v) ∧ X.cell? ⟨r, 0, none⟩ = some (.slice fa D.fs.length fc) ∧ X.cell? ⟨r, 1, none⟩ = some (.slice wa D.ws.length wc)) := fun X hX => by
    have h2 := h.below hX
    have shp : ∀ (v : Value) (a : Option Addr) (m c e z : Nat) (xs : List Value), X.ownsRow lo e z v m xs → v = .slice a m c → ∀ A, a = some A → v.ownBlock = some A.block ∧ A = ⟨A.block, 0, none⟩ := fun v a m c e z xs ho he A hA => by
      rcases ho.2 with ⟨e1, _⟩ | ⟨g, cap, cur, e1, _⟩
      · rw [e1] at he
        rw [hA] at he
        simp at he
      · rw [e1] at he
        rw [hA] at he
        simp only [Value.slice.injEq, Option.some.injEq] at he
        obtain ⟨rfl, _⟩ := he
        rw [e1]
        exact ⟨rfl, rfl⟩
    refine ⟨fun A hA j v hj => ?_, fun A hA j v hj => ?_, by rw [← hv1]; exact h2.cell 0, by rw [← hw1]; exact h2.cell 1⟩
    · obtain ⟨q1, q2⟩ := shp _ _ _ _ _ _ _ h2.lrow hv1 A hA
      have := h2.lrow.cells q1 j v hj
      rwa [← q2] at this
    · obtain ⟨q1, q2⟩ := shp _ _ _ _ _ _ _ h2.wrow hw1 A hA
      have := h2.wrow.cells q1 j v hj
      rwa [← q2] at this
  have HNo : Hid ((fa = none → D.fs.length = 0 ∧ fc = 0) ∧ (wa = none → D.ws.length = 0 ∧ wc = 0)) := by
    refine ⟨fun e => ?_, fun e => ?_⟩
    · rcases h.lrow.2 with ⟨e1, e2⟩ | ⟨g, cap, cur, e1, _⟩
      · rw [hv1] at e1; simp only [Value.slice.injEq] at e1; exact ⟨e1.2.1, e1.2.2⟩
      · rw [hv1, e] at e1; simp at e1
    · rcases h.wrow.2 with ⟨e1, e2⟩ | ⟨g, cap, cur, e1, _⟩
      · rw [hw1] at e1; simp only [Value.slice.injEq] at e1; exact ⟨e1.2.1, e1.2.2⟩
      · rw [hw1, e] at e1; simp at e1
  have HO1 : Hid (∀ v ∈ D.fs.flatMap MF.cells, v.oneCell' = true) := files_one _ fun f hf => ⟨(h.txt f hf).1.one, (h.txt f hf).2.one⟩
  clear h hv1 hv2 hv3 hw1 hw2 hw3 ekv
  go_enter Tryz.func8, Tryz.ntmps8
  go_upto_region 2 with fail
  obtain ⟨u, hu⟩ : ∃ u, u = w.heap.size := ⟨_, rfl⟩
  have hB1 := below_new w (.cells #[.slice fa D.fs.length fc, .slice wa D.ws.length wc, .bool D.off, .int .i64 D.room, .bool D.armed, .int .i64 D.n, .slice ka km kc, .int .i64 D.ids] 32)
  have hU1 := new_at w #[.slice fa D.fs.length fc, .slice wa D.ws.length wc, .bool D.off, .int .i64 D.room, .bool D.armed, .int .i64 D.n, .slice ka km kc, .int .i64 D.ids] 32
  have hsz : (w.alloc (.cells #[.slice fa D.fs.length fc, .slice wa D.ws.length wc, .bool D.off, .int .i64 D.room, .bool D.armed, .int .i64 D.n, .slice ka km kc, .int .i64 D.ids] 32)).heap.size = w.heap.size + 1 := by simp
  rw [← hu] at hU1
  have HUw := Lib.hid hu
  rw [← hu]
  clear hu
  generalize w.alloc (.cells #[.slice fa D.fs.length fc, .slice wa D.ws.length wc, .bool D.off, .int .i64 D.room, .bool D.armed, .int .i64 D.n, .slice ka km kc, .int .i64 D.ids] 32) = X1 at *
  have HB1 := Lib.hid hB1
  have HU1 := Lib.hid hU1
  have HSz := Lib.hid hsz
  have HFl : Hid ((D.fs.flatMap MF.cells).length = D.fs.length * 6) := flat_length MF.six _
  have HWl : Hid ((D.ws.flatMap RW.cells).length = D.ws.length * 3) := flat_length RW.three _
  obtain ⟨-, -, k0, -⟩ := HLc.out _ hB1
  clear c0 c1 c2 c3 c4 c5 c6 c7 hB1 hU1 hsz
  go_upto_region 3 with (at_builtin; refine wpList_app rfl _ _ 28 rfl X1.heap.size 83 i2 z2 6 80 Tryz.underlying28 hi2 hz20 hz21 hz22 HZ2.out (by decide) (.slice none 0 0) 0 [] rfl (World.ownsRow_nil _ _ _ _) fa D.fs.length fc (D.fs.flatMap MF.cells) rfl HFl.out (HLc.out _ HB1.out).1 HNo.out.1 HO1.out (by unfold maxLen; omega) (by omega) (Nat.le_refl _) ?_; intro p1 s1 X2 hown2 hgrow2 hat2; have HB2 : Hid (Below X1.heap.size X1 X2) := Fr.below (fr_grown hgrow2 (by intro k hk; cases hk)); have HO2 : Hid (X2.ownsRow X1.heap.size 83 6 (.slice p1 D.fs.length s1) D.fs.length (D.fs.flatMap MF.cells)) := (by rw [Nat.zero_add, List.nil_append] at hown2; exact hown2); have hu2 := old_below HU1.out HB2.out; have d0 := cell_at hu2 0; have d0' : X2.cell? ⟨u, 0, none⟩ = some (.slice fa D.fs.length fc) := d0; have d1 := free_at hu2 0; clear d0 hu2 hown2 hgrow2 hat2)
  generalize hY : World.setCell X2 ⟨u, 0, none⟩ _ = Y
  have hY2 : X2.setCell ⟨u, 0, none⟩ (.slice p1 D.fs.length s1) = Y := by first | exact hY | (rw [Nat.zero_add] at hY; exact hY)
  have hUY : Y.heap[u]? = some (.cells #[.slice p1 D.fs.length s1, .slice wa D.ws.length wc, .bool D.off, .int .i64 D.room, .bool D.armed, .int .i64 D.n, .slice ka km kc, .int .i64 D.ids] 32 (0, 0)) := by
    rw [← hY2]
    exact set_at (old_below HU1.out HB2.out) 0 _
  have hOY : Y.ownsRow X1.heap.size 83 6 (.slice p1 D.fs.length s1) D.fs.length (D.fs.flatMap MF.cells) := by
    rw [← hY2]
    exact owned_fr HO2.out fun b hb => Below.heap_setCell _ _ _ _ (fun e => by have h1 := (owned_at HO2.out hb).1; have h2 := HSz.out; have h3 := HUw.out; have e' : b = u := e; omega)
  have hBY : Below w.heap.size w Y := by
    rw [← hY2]
    exact Only.new (thenBelow HB1.out HB2.out) ((Only.refl u X2).setCell _ _) (by rw [HUw.out]; exact Nat.le_refl _)
  have HUY := Lib.hid hUY
  have HOY := Lib.hid hOY
  have HBY := Lib.hid hBY
  have hXY : X1.heap.size ≤ Y.heap.size := by rw [← hY2]; have := HB2.out.size; simpa [World.setCell] using this
  have HXY := Lib.hid hXY
  obtain ⟨-, -, -, k1⟩ := HLc.out _ hBY
  clear hY hY2 hUY hOY hBY hXY k0 d0' d1
  go_wp2_with (at_builtin; refine wpList_app rfl _ _ 29 rfl Y.heap.size 127 i3 z3 3 32 Tryz.underlying29 hi3 hz30 hz31 hz32 HZ3.out (by decide) (.slice none 0 0) 0 [] rfl (World.ownsRow_nil _ _ _ _) wa D.ws.length wc (D.ws.flatMap RW.cells) rfl HWl.out (HLc.out _ HBY.out).2.1 HNo.out.2 (ints_one _) (by unfold maxLen; omega) (by omega) (Nat.le_refl _) ?_; intro p3 s3 X3 hown3 hgrow3 hat3; have HB3 : Hid (Below Y.heap.size Y X3) := Fr.below (fr_grown hgrow3 (by intro k hk; cases hk)); have HO3 : Hid (X3.ownsRow Y.heap.size 127 3 (.slice p3 D.ws.length s3) D.ws.length (D.ws.flatMap RW.cells)) := (by rw [Nat.zero_add, List.nil_append] at hown3; exact hown3); have hu3 := old_below HUY.out HB3.out; have d0 : X3.cell? ⟨u, 1, none⟩ = some (.slice wa D.ws.length wc) := cell_at hu3 1; have d1 := free_at hu3 1; clear hu3 hown3 hgrow3 hat3)
  have HEnd : Hid (TwinM w r D (.returned (.pointer (some ⟨u, 0, none⟩))) (X3.setCell ⟨u, 1, none⟩ (.slice p3 D.ws.length s3))) := by
    have h1 := HSz.out
    have h2 := HUw.out
    have h3 := HXY.out
    have hbl := set_at (old_below HUY.out HB3.out) 1 (.slice p3 D.ws.length s3)
    have hoth : ∀ b, b ≠ u → (X3.setCell ⟨u, 1, none⟩ (.slice p3 D.ws.length s3)).heap[b]? = X3.heap[b]? := fun b hb => Below.heap_setCell _ _ _ _ hb
    have hBZ : Below w.heap.size w (X3.setCell ⟨u, 1, none⟩ (.slice p3 D.ws.length s3)) := Only.new (thenBelow HBY.out HB3.out) ((Only.refl u X3).setCell _ _) (by omega)
    have hl := own_keep HOY.out HB3.out
    refine ⟨u, .slice p1 D.fs.length s1, .slice p3 D.ws.length s3, rfl, ⟨?_, by omega, ?_, ?_, fun f hf => ?_, HR.out.few, HR.out.few2, HR.out.long⟩, ?_, hBZ⟩
    · rw [hbl]
      simp [RM.cells, HKV.out]
    · exact owned_fr (own_le hl (by omega)) fun b hb => hoth b (by have := (owned_at hl hb).1; omega)
    · exact owned_fr (own_le HO3.out (by omega)) fun b hb => hoth b (by have := (owned_at HO3.out hb).1; omega)
    · exact ((HR.out.below hBZ).txt f hf)
    · rintro k (rfl | hk | hk)
      · omega
      · have := (owned_at hl hk).1; omega
      · have := (owned_at HO3.out hk).1; omega
  go_ret
  first | exact HEnd.out | (simp only [Nat.zero_add]; exact HEnd.out)
end

end Go.Proofs.YtaabepiddbnggaaGreat.P4
