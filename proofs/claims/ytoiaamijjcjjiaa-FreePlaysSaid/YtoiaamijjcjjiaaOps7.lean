/-
  Acts on a list of free ids, as arguments; Light. (For the seat of FreePlays.)
-/
import Derived.Test.YtoiaamijjcjjiaaArgs7
namespace Go.Proofs.Ytoiaamijjcjjiaa.P7
open Go Go.RowKit Go.Lib Go.Maps Go.ChangeMaps Go.MapKept Go.Proofs.Ytoiaamijjcjjiaa.PK

/-- an act, as a value -/
structure OpI where
  kind : Int
  A : Int
  a : Option Addr
  c : Nat
  L : List Int
abbrev OpI.cells (o : OpI) : Array Value := #[.int .i64 o.kind, .int .i64 o.A, .slice o.a o.L.length o.c]
abbrev OpI.v (o : OpI) : Value := .slice o.a o.L.length o.c
theorem cellsOp7 : Try.prog.cellsOf 51 = 3 := by kernel_rfl
theorem cellsInts7 : Try.prog.cellsOf 22 = 1 := by kernel_rfl
section
variable {H : Type} {enc : TypeId × Value → H} {w : World} {base : Nat} {sp : Nat → Bool} {held : Bool}
set_option maxRecDepth 100000 in
theorem op_open {n : Nat} {cs : List Value} {x : DataW H × List MemPlace} (h : DataW.trod enc Try.prog w base sp held n 51 cs = some x) : ∃ o : OpI, cs = o.cells.toList ∧ IL w o.v o.L := by
  obtain ⟨xs, m, _, _, hl, hxl, hf⟩ := DataW.trod_struct Try.underlying51 h
  rw [cellsOp7] at hl
  match cs, hl with
  | [c0, c1, c2], _ =>
    have hx : ∀ i, i < 3 → ∃ y, xs[i]? = some y := fun i hi => ⟨_, List.getElem?_eq_getElem (by rw [hxl]; exact hi)⟩
    obtain ⟨y0, e0⟩ := hx 0 (by omega)
    obtain ⟨y1, e1⟩ := hx 1 (by omega)
    obtain ⟨y2, e2⟩ := hx 2 (by omega)
    have f0 : DataW.trod enc Try.prog w base sp held m 3 (([c0, c1, c2].drop 0).take (Try.prog.cellsOf 3)) = some y0 := (hf 0 _ rfl).trans e0
    have f1 : DataW.trod enc Try.prog w base sp held m 3 (([c0, c1, c2].drop 1).take (Try.prog.cellsOf 3)) = some y1 := (hf 1 _ rfl).trans e1
    have f2 : DataW.trod enc Try.prog w base sp held m 22 (([c0, c1, c2].drop 2).take (Try.prog.cellsOf 22)) = some y2 := (hf 2 _ rfl).trans e2
    rw [cellsInt7] at f0 f1
    rw [cellsInts7] at f2
    obtain ⟨k, g0, _, w0⟩ := DataW.trod_int Try.underlying3 f0
    obtain ⟨p, g1, _, w1⟩ := DataW.trod_int Try.underlying3 f1
    obtain ⟨l, hl⟩ := il_open (v := c2) f2
    obtain rfl : c0 = .int .i64 k := by simpa using g0
    obtain rfl : c1 = .int .i64 p := by simpa using g1
    have hl2 := hl
    obtain ⟨a, c, rfl, _⟩ := hl2
    exact ⟨⟨k, p, a, c, l⟩, rfl, hl⟩
/-- a list of acts -/
def OpsIn (w : World) (v : Value) (l : List OpI) : Prop :=
  ∃ a c, v = .slice a l.length c ∧ l.length ≤ 9223372036854775807 ∧ (0 < l.length → ∃ b off, a = some ⟨b, off, none⟩ ∧ b < w.heap.size ∧ ∀ i (o : OpI), l[i]? = some o → (∀ j u, o.cells.toList[j]? = some u → w.cell? ⟨b, off + i * 3 + j, none⟩ = some u) ∧ IL w o.v o.L)
set_option maxRecDepth 100000 in
theorem ops_open {n : Nat} {v : Value} {x : DataW H × List MemPlace} (h : DataW.trod enc Try.prog w base sp held n 23 [v] = some x) : ∃ l, OpsIn w v l := by
  rcases Deep.open_slice Try.underlying23 h with ⟨hv, _⟩ | ⟨a, len, cap, m, q, D, Pl, hv, _, hl, hm, hmm, hx, hi⟩
  · simp only [List.cons.injEq, and_true] at hv
    exact ⟨[], none, 0, hv, by simp, fun h => absurd h (Nat.lt_irrefl _)⟩
  · simp only [List.cons.injEq, and_true] at hv
    have hlm : len ≤ m := by rw [hmm]; split <;> omega
    have hch : ∀ i, i < len → ∃ o : OpI, (∀ j, j < 3 → w.cell? ((a.add (i * 3)).add j) = o.cells.toList[j]?) ∧ IL w o.v o.L := fun i hil => by
      obtain ⟨cs', h1, h2⟩ := hi i (by omega)
      obtain ⟨o, rfl, hd⟩ := op_open h2
      rw [cellsOp7] at h1
      exact ⟨o, (World.cells?_some h1).2.2, hd⟩
    obtain ⟨f, hf⟩ : ∃ f : Nat → OpI, ∀ i, i < len → (∀ j, j < 3 → w.cell? ((a.add (i * 3)).add j) = (f i).cells.toList[j]?) ∧ IL w (f i).v (f i).L := by
      refine ⟨fun i => if h : i < len then Classical.choose (hch i h) else ⟨0, 0, none, 0, []⟩, fun i hil => ?_⟩
      simp only [hil, dif_pos]
      exact Classical.choose_spec (hch i hil)
    refine ⟨(List.range len).map f, some a, cap, by rw [hv]; simp, by simp; unfold maxLen at hm; omega, fun h0 => ?_⟩
    have h0' : 0 < len := by simpa using h0
    obtain ⟨b, off, spot⟩ := a
    have hc0 := (hf 0 h0').1 0 (by omega)
    have hspot : spot = none := by
      have := World.cell?_spot (w := w) (a := ((⟨b, off, spot⟩ : Addr).add (0 * 3)).add 0) hc0
      simpa [Addr.add] using this
    subst hspot
    have hadd : ∀ i j : Nat, ((⟨b, off, none⟩ : Addr).add (i * 3)).add j = ⟨b, off + i * 3 + j, none⟩ := fun i j => by
      rw [Go.WideShapes.add_plain, Go.WideShapes.add_plain]
    refine ⟨b, off, rfl, ?_, fun i o hio => ?_⟩
    · rw [hadd] at hc0
      exact World.block_lt_of_cell? w _ hc0
    · have hil : i < len := by have := (List.getElem?_eq_some_iff.1 hio).1; simpa using this
      rw [List.getElem?_map, List.getElem?_range hil] at hio
      obtain rfl : f i = o := by simpa using hio
      refine ⟨fun j u hju => ?_, (hf i hil).2⟩
      have hj3 : j < 3 := (List.getElem?_eq_some_iff.1 hju).1
      have h1 := (hf i hil).1 j hj3
      rw [hadd, hju] at h1
      exact h1
end
theorem OpsIn.below {w w' : World} {v : Value} {l : List OpI} (h : OpsIn w v l) (hb : Below w.heap.size w w') : OpsIn w' v l := by
  obtain ⟨a, c, h1, hl, h2⟩ := h
  refine ⟨a, c, h1, hl, fun h0 => ?_⟩
  obtain ⟨b, off, h3, h4, h5⟩ := h2 h0
  exact ⟨b, off, h3, Nat.lt_of_lt_of_le h4 hb.size, fun i o hio => ⟨fun j u hju => by rw [hb.cell (p := ⟨b, off + i * 3 + j, none⟩) h4]; exact (h5 i o hio).1 j u hju, (h5 i o hio).2.below hb⟩⟩
/-- what Light says yes to -/
def Light7Ok (l : List OpI) : Prop := l.length ≤ 50 ∧ ∀ o ∈ l, o.L.length ≤ 60
def Light7Post (w : World) (l : List OpI) (e : Ending) (w' : World) : Prop := (∃ b, e = .returned (.bool b) ∧ (b = true → Light7Ok l)) ∧ w = w'
theorem light7_any (w : World) (v : Value) (l : List OpI) (h : OpsIn w v l) : Calls Try.prog 6 #[v] w (Light7Post w l) := by
  obtain ⟨a, c, rfl, hl, hc⟩ := h
  have HC := Lib.hid hc
  clear hc
  go_enter Try.func6, Try.ntmps6
  go_wp2
  go_loop [3] (fun vi => ∃ k : Nat, k ≤ l.length ∧ vi = .int .i64 k ∧ Hid (∀ j (o : OpI), j < k → l[j]? = some o → o.L.length ≤ 60)) (fun vi => l.length - (RowKit.intOf vi).toNat)
  case atStart => exact ⟨0, Nat.zero_le _, rfl, fun j o hj => absurd hj (Nat.not_lt_zero _)⟩
  case round =>
    obtain ⟨k, hk, rfl, hS⟩ := hrel
    have hend : Hid (¬ k < l.length → l.length ≤ 50 → Light7Ok l) := fun h1 h3 => ⟨h3, fun o ho => by
      obtain ⟨j, hj⟩ := List.getElem?_of_mem ho
      have hjl := (List.getElem?_eq_some_iff.1 hj).1
      exact hS.out j o (by omega) hj⟩
    by_cases h1 : k < l.length
    · have i1 : decide ((k : Int) < (l.length : Int)) = true := decide_eq_true (by omega)
      have i1' : decide (k < l.length) = true := decide_eq_true h1
      have b0 : (0 : Int) ≤ (k : Int) := by omega
      have b1 : (k : Int) < (l.length : Int) := by omega
      by_cases h2 : k < 100
      · have i2 : decide ((k : Int) < 100) = true := decide_eq_true (by omega)
        have i2' : decide (k < 100) = true := decide_eq_true h2
        obtain ⟨b, off, rfl, hbl, hcc⟩ := HC.out (by omega)
        obtain ⟨o, ho⟩ : ∃ o, l[k]? = some o := ⟨_, List.getElem?_eq_getElem h1⟩
        have x2 : w.cell? ⟨b, off + k * 3 + 2, none⟩ = some (.slice o.a o.L.length o.c) := (hcc k o ho).1 2 _ rfl
        obtain ⟨n, hn⟩ : ∃ n, n = o.L.length := ⟨_, rfl⟩
        rw [← hn] at x2
        have HO := Lib.hid ho
        have HN := Lib.hid hn
        clear hcc ho hn hend
        by_cases h3 : 60 < n
        · have i3 : decide ((60 : Int) < (n : Int)) = true := decide_eq_true (by omega)
          have i3' : decide (60 < n) = true := decide_eq_true h3
          go_wp2
          go_ret
          exact ⟨⟨false, rfl, fun h => (by cases h)⟩, rfl⟩
        · have i3 : decide ((60 : Int) < (n : Int)) = false := decide_eq_false (by omega)
          have i3' : decide (60 < n) = false := decide_eq_false h3
          go_wp2
          go_round
          case rel => exact ⟨k + 1, by omega, by go_num, fun j p hj hp => by
            by_cases e : j = k
            · subst e
              rw [HO.out] at hp
              cases hp
              have := HN.out
              omega
            · exact hS.out j p (by omega) hp⟩
          case measure => simp [RowKit.intOf]; omega
      · have i2 : decide ((k : Int) < 100) = false := decide_eq_false (by omega)
        have i2' : decide (k < 100) = false := decide_eq_false h2
        have i4 : decide ((l.length : Int) ≤ 50) = false := decide_eq_false (by omega)
        have i4' : decide (l.length ≤ 50) = false := decide_eq_false (by omega)
        go_wp2
        go_ret
        exact ⟨⟨false, rfl, fun h => (by cases h)⟩, rfl⟩
    · have i1 : decide ((k : Int) < (l.length : Int)) = false := decide_eq_false (by omega)
      have i1' : decide (k < l.length) = false := decide_eq_false h1
      by_cases h4 : l.length ≤ 50
      · have i4 : decide ((l.length : Int) ≤ 50) = true := decide_eq_true (by omega)
        have i4' : decide (l.length ≤ 50) = true := decide_eq_true h4
        have hOk := Lib.hid (hend.out h1 h4)
        clear hend
        go_wp2
        go_ret
        exact ⟨⟨_, rfl, fun _ => hOk.out⟩, rfl⟩
      · have i4 : decide ((l.length : Int) ≤ 50) = false := decide_eq_false (by omega)
        have i4' : decide (l.length ≤ 50) = false := decide_eq_false h4
        clear hend
        go_wp2
        go_ret
        exact ⟨⟨false, rfl, fun h => (by cases h)⟩, rfl⟩

end Go.Proofs.Ytoiaamijjcjjiaa.P7
