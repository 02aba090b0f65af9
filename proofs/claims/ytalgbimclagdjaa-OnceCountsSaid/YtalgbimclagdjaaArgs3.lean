/-
  The statements' arguments: lists of ints, of texts, of things to do: how they read.
-/
import Derived.Test.YtalgbimclagdjaaVars3
import Derived.Deep.Slices
import Derived.OpenShut
import Derived.SliceStrings
import Derived.ChangeSlices
namespace Go.Proofs.Ytalgbimclagdjaa.P3
open Go Go.RowKit Go.Lib Go.Maps Go.ChangeMaps Go.MapKept

/-- the value v reads as the ints l -/
def IntsIn (w : World) (v : Value) (l : List Int) : Prop :=
  ∃ a c, v = .slice a l.length c ∧ l.length ≤ 9223372036854775807 ∧ (0 < l.length → ∃ b off, a = some ⟨b, off, none⟩ ∧ b < w.heap.size ∧ ∀ i, i < l.length → w.cell? ⟨b, off + i, none⟩ = some (.int .i64 (l.getD i 0)))
/-- .. as the texts l -/
def StrsIn (w : World) (v : Value) (l : List ByteArray) : Prop :=
  ∃ a c, v = .slice a l.length c ∧ l.length ≤ 9223372036854775807 ∧ (0 < l.length → ∃ b off, a = some ⟨b, off, none⟩ ∧ b < w.heap.size ∧ ∀ i, i < l.length → w.cell? ⟨b, off + i, none⟩ = some (.string (l.getD i ⟨#[]⟩)))
/-- .. as the things to do l: each its kind and its number -/
def DosIn (w : World) (v : Value) (l : List (Int × Int)) : Prop :=
  ∃ a c, v = .slice a l.length c ∧ l.length ≤ 9223372036854775807 ∧ (0 < l.length → ∃ b off, a = some ⟨b, off, none⟩ ∧ b < w.heap.size ∧ ∀ i, i < l.length →
    w.cell? ⟨b, off + i * 2, none⟩ = some (.int .i64 (l.getD i (0, 0)).1) ∧ w.cell? ⟨b, off + i * 2 + 1, none⟩ = some (.int .i64 (l.getD i (0, 0)).2) ∧ (Lit.int .i64 (l.getD i (0, 0)).2).wf = true)

theorem cellsInt : Try.prog.cellsOf 3 = 1 := by kernel_rfl
theorem cellsString : Try.prog.cellsOf 9 = 1 := by kernel_rfl
theorem cellsOp3 : Try.prog.cellsOf 64 = 2 := by kernel_rfl

section
variable {H : Type} {enc : TypeId × Value → H} {w : World} {base : Nat} {sp : Nat → Bool} {held : Bool}

theorem ints_open {n : Nat} {v : Value} {x : DataW H × List MemPlace} (h : DataW.trod enc Try.prog w base sp held n 73 [v] = some x) : ∃ l, IntsIn w v l := by
  rcases Go.ChangeShapes.open_ints Try.underlying73 Try.underlying3 cellsInt h with ⟨hv, _⟩ | ⟨a, len, cap, zs, hv, _, hl, hm, hz, _, hcell, _⟩
  · simp only [List.cons.injEq, and_true] at hv
    exact ⟨[], none, 0, hv, by simp, fun h => absurd h (Nat.lt_irrefl _)⟩
  · simp only [List.cons.injEq, and_true] at hv
    have hlen : len ≤ zs.length := by rw [hz]; split <;> omega
    have hm2 : maxLen = 9223372036854775807 := by decide
    refine ⟨zs.take len, some a, cap, by rw [hv, List.length_take, Nat.min_eq_left hlen], by rw [List.length_take]; omega, fun h0 => ?_⟩
    rw [List.length_take, Nat.min_eq_left hlen] at h0
    obtain ⟨b, off, spot⟩ := a
    have hc0 := hcell 0 (by omega)
    have hspot : spot = none := by
      have := World.cell?_spot (w := w) (a := (⟨b, off, spot⟩ : Addr).add 0) hc0
      simpa [Addr.add] using this
    subst hspot
    refine ⟨b, off, rfl, ?_, fun i hi => ?_⟩
    · rw [Go.WideShapes.add_plain] at hc0
      exact World.block_lt_of_cell? w _ hc0
    · rw [List.length_take] at hi
      have := hcell i (by omega)
      rw [Go.WideShapes.add_plain] at this
      rw [this]
      congr 2
      rw [List.getD_eq_getElem?_getD, List.getD_eq_getElem?_getD, List.getElem?_take_of_lt (by omega)]

theorem strs_open {n : Nat} {v : Value} {x : DataW H × List MemPlace} (h : DataW.trod enc Try.prog w base sp held n 22 [v] = some x) : ∃ l, StrsIn w v l := by
  rcases Go.ChangeShapes.open_strings Try.underlying22 Try.underlying9 cellsString h with ⟨hv, _⟩ | ⟨a, len, cap, ss, hv, _, hl, hm, hz, _, hcell, hsz⟩
  · simp only [List.cons.injEq, and_true] at hv
    exact ⟨[], none, 0, hv, by simp, fun h => absurd h (Nat.lt_irrefl _)⟩
  · simp only [List.cons.injEq, and_true] at hv
    have hlen : len ≤ ss.length := by rw [hz]; split <;> omega
    have hm2 : maxLen = 9223372036854775807 := by decide
    refine ⟨ss.take len, some a, cap, by rw [hv, List.length_take, Nat.min_eq_left hlen], by rw [List.length_take]; omega, fun h0 => ?_⟩
    rw [List.length_take, Nat.min_eq_left hlen] at h0
    obtain ⟨b, off, spot⟩ := a
    have hc0 := hcell 0 (by omega)
    have hspot : spot = none := by
      have := World.cell?_spot (w := w) (a := (⟨b, off, spot⟩ : Addr).add 0) hc0
      simpa [Addr.add] using this
    subst hspot
    refine ⟨b, off, rfl, ?_, fun i hi => ?_⟩
    · rw [Go.WideShapes.add_plain] at hc0
      exact World.block_lt_of_cell? w _ hc0
    · rw [List.length_take] at hi
      have := hcell i (by omega)
      rw [Go.WideShapes.add_plain] at this
      rw [this]
      simp [List.getElem?_take_of_lt (show i < len by omega), show i < ss.length by omega]

set_option maxRecDepth 100000 in
theorem do_open {n : Nat} {cs : List Value} {x : DataW H × List MemPlace} (h : DataW.trod enc Try.prog w base sp held n 64 cs = some x) :
    ∃ d : Int × Int, cs = [.int .i64 d.1, .int .i64 d.2] ∧ (Lit.int .i64 d.2).wf = true := by
  obtain ⟨xs, m, _, _, hl, hxl, hf⟩ := DataW.trod_struct Try.underlying64 h
  rw [cellsOp3] at hl
  match cs, hl with
  | [c0, c1], _ =>
    have hx : ∀ i, i < 2 → ∃ y, xs[i]? = some y := fun i hi => ⟨_, List.getElem?_eq_getElem (by rw [hxl]; exact hi)⟩
    obtain ⟨y0, e0⟩ := hx 0 (by omega)
    obtain ⟨y1, e1⟩ := hx 1 (by omega)
    have f0 : DataW.trod enc Try.prog w base sp held m 3 (([c0, c1].drop 0).take (Try.prog.cellsOf 3)) = some y0 := (hf 0 _ rfl).trans e0
    have f1 : DataW.trod enc Try.prog w base sp held m 3 (([c0, c1].drop 1).take (Try.prog.cellsOf 3)) = some y1 := (hf 1 _ rfl).trans e1
    rw [cellsInt] at f0 f1
    obtain ⟨k, g0, _, w0⟩ := DataW.trod_int Try.underlying3 f0
    obtain ⟨q, g1, _, w1⟩ := DataW.trod_int Try.underlying3 f1
    obtain rfl : c0 = .int .i64 k := by simpa using g0
    obtain rfl : c1 = .int .i64 q := by simpa using g1
    exact ⟨⟨k, q⟩, rfl, w1⟩
set_option maxRecDepth 100000 in
theorem dos_open {n : Nat} {v : Value} {x : DataW H × List MemPlace} (h : DataW.trod enc Try.prog w base sp held n 48 [v] = some x) : ∃ l, DosIn w v l := by
  rcases Deep.open_slice Try.underlying48 h with ⟨hv, _⟩ | ⟨a, len, cap, m, q, D, Pl, hv, _, hl, hm, hmm, hx, hi⟩
  · simp only [List.cons.injEq, and_true] at hv
    exact ⟨[], none, 0, hv, by simp, fun h => absurd h (Nat.lt_irrefl _)⟩
  · simp only [List.cons.injEq, and_true] at hv
    have hlm : len ≤ m := by rw [hmm]; split <;> omega
    obtain ⟨f, hf⟩ := Deep.choose_lt (α := Int × Int) (n := len) (p := fun i d => (∀ j, j < 2 → w.cell? ((a.add (i * 2)).add j) = [Value.int .i64 d.1, Value.int .i64 d.2][j]?) ∧ (Lit.int .i64 d.2).wf = true) (fun i hil => by
      obtain ⟨cs', h1, h2⟩ := hi i (by omega)
      obtain ⟨d, rfl, hd⟩ := do_open h2
      rw [cellsOp3] at h1
      exact ⟨d, (World.cells?_some h1).2.2, hd⟩)
    have hfl : ∀ i, i < len → ((List.range len).map f).getD i (0, 0) = f i := fun i hi => by
      rw [List.getD_eq_getElem?_getD, List.getElem?_map, List.getElem?_range hi]
      rfl
    refine ⟨(List.range len).map f, some a, cap, by rw [hv]; simp, by simp; unfold maxLen at hm; omega, fun h0 => ?_⟩
    have h0' : 0 < len := by simpa using h0
    obtain ⟨b, off, spot⟩ := a
    have hc0 := (hf 0 h0').1 0 (by omega)
    have hspot : spot = none := by
      have := World.cell?_spot (w := w) (a := ((⟨b, off, spot⟩ : Addr).add (0 * 2)).add 0) hc0
      simpa [Addr.add] using this
    subst hspot
    have hadd : ∀ i j : Nat, ((⟨b, off, none⟩ : Addr).add (i * 2)).add j = ⟨b, off + i * 2 + j, none⟩ := fun i j => by
      rw [Go.WideShapes.add_plain, Go.WideShapes.add_plain]
    refine ⟨b, off, rfl, ?_, fun i hil => ?_⟩
    · rw [hadd] at hc0
      exact World.block_lt_of_cell? w _ hc0
    · have hil' : i < len := by simpa using hil
      rw [hfl i hil']
      refine ⟨?_, ?_, (hf i hil').2⟩
      · have := (hf i hil').1 0 (by omega); rw [hadd] at this; exact this
      · have := (hf i hil').1 1 (by omega); rw [hadd] at this; exact this
end

theorem IntsIn.below {w w' : World} {v : Value} {l : List Int} (h : IntsIn w v l) (hb : Below w.heap.size w w') : IntsIn w' v l := by
  obtain ⟨a, c, h1, hl, h2⟩ := h
  refine ⟨a, c, h1, hl, fun h0 => ?_⟩
  obtain ⟨b, off, h3, h4, h5⟩ := h2 h0
  exact ⟨b, off, h3, Nat.lt_of_lt_of_le h4 hb.size, fun i hi => by rw [hb.cell (p := ⟨b, off + i, none⟩) h4]; exact h5 i hi⟩
theorem StrsIn.below {w w' : World} {v : Value} {l : List ByteArray} (h : StrsIn w v l) (hb : Below w.heap.size w w') : StrsIn w' v l := by
  obtain ⟨a, c, h1, hl, h2⟩ := h
  refine ⟨a, c, h1, hl, fun h0 => ?_⟩
  obtain ⟨b, off, h3, h4, h5⟩ := h2 h0
  exact ⟨b, off, h3, Nat.lt_of_lt_of_le h4 hb.size, fun i hi => by rw [hb.cell (p := ⟨b, off + i, none⟩) h4]; exact h5 i hi⟩
theorem DosIn.below {w w' : World} {v : Value} {l : List (Int × Int)} (h : DosIn w v l) (hb : Below w.heap.size w w') : DosIn w' v l := by
  obtain ⟨a, c, h1, hl, h2⟩ := h
  refine ⟨a, c, h1, hl, fun h0 => ?_⟩
  obtain ⟨b, off, h3, h4, h5⟩ := h2 h0
  exact ⟨b, off, h3, Nat.lt_of_lt_of_le h4 hb.size, fun i hi => ⟨by rw [hb.cell (p := ⟨b, off + i * 2, none⟩) h4]; exact (h5 i hi).1, by rw [hb.cell (p := ⟨b, off + i * 2 + 1, none⟩) h4]; exact (h5 i hi).2.1, (h5 i hi).2.2⟩⟩

end Go.Proofs.Ytalgbimclagdjaa.P3
