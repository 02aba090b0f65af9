/-
  The statements' list of things to put, or to read: its cells; light.
-/
import Derived.Test.YtadcmjcafimkeaaDoorLists1
import Derived.Deep.Slices
import Derived.Deep.LoopGhost
import Derived.OpenShut
namespace Go.Proofs.YtadcmjcafimkeaaDoor.P1
open Go Go.RowKit Go.Lib

/-- an element: its kind, its number, its text -/
structure OpD where
  k : Int
  n : Int
  s : ByteArray
instance : Inhabited OpD := ⟨⟨0, 0, ⟨#[]⟩⟩⟩
def OpD.ok (o : OpD) : Prop := (-9223372036854775808 ≤ o.k ∧ o.k ≤ 9223372036854775807) ∧ (-9223372036854775808 ≤ o.n ∧ o.n ≤ 9223372036854775807) ∧ o.s.size ≤ maxLen
def OpAt (w : World) (b o : Nat) (d : OpD) : Prop := w.cell? ⟨b, o, none⟩ = some (.int .i64 d.k) ∧ w.cell? ⟨b, o + 1, none⟩ = some (.int .i64 d.n) ∧ w.cell? ⟨b, o + 2, none⟩ = some (.string d.s)
/-- the value v reads as the list f 0 .. f (L - 1) -/
def OpsIn (w : World) (v : Value) (L : Nat) (f : Nat → OpD) : Prop :=
  ∃ a c, v = .slice a L c ∧ L ≤ 9223372036854775807 ∧ (0 < L → ∃ b off, a = some ⟨b, off, none⟩ ∧ b < w.heap.size ∧ ∀ i, i < L → OpAt w b (off + i * 3) (f i) ∧ (f i).ok)

section
variable {H : Type} {enc : TypeId × Value → H} {w : World} {base : Nat} {sp : Nat → Bool} {held : Bool}
theorem cellsInt : Tryd.prog.cellsOf 3 = 1 := by kernel_rfl
theorem cellsString : Tryd.prog.cellsOf 9 = 1 := by kernel_rfl
theorem cellsOp : Tryd.prog.cellsOf 31 = 3 := by kernel_rfl
theorem op_open {n : Nat} {cs : List Value} {x : DataW H × List MemPlace} (h : DataW.trod enc Tryd.prog w base sp held n 31 cs = some x) :
    ∃ d : OpD, cs = [.int .i64 d.k, .int .i64 d.n, .string d.s] ∧ d.ok := by
  obtain ⟨xs, m, _, _, hl, hxl, hf⟩ := DataW.trod_struct Tryd.underlying31 h
  rw [cellsOp] at hl
  match cs, hl with
  | [c0, c1, c2], _ =>
    have hx : ∀ i, i < 3 → ∃ y, xs[i]? = some y := fun i hi => ⟨_, List.getElem?_eq_getElem (by rw [hxl]; exact hi)⟩
    obtain ⟨y0, e0⟩ := hx 0 (by omega)
    obtain ⟨y1, e1⟩ := hx 1 (by omega)
    obtain ⟨y2, e2⟩ := hx 2 (by omega)
    have f0 : DataW.trod enc Tryd.prog w base sp held m 3 (([c0, c1, c2].drop 0).take (Tryd.prog.cellsOf 3)) = some y0 := (hf 0 _ rfl).trans e0
    have f1 : DataW.trod enc Tryd.prog w base sp held m 3 (([c0, c1, c2].drop 1).take (Tryd.prog.cellsOf 3)) = some y1 := (hf 1 _ rfl).trans e1
    have f2 : DataW.trod enc Tryd.prog w base sp held m 9 (([c0, c1, c2].drop 2).take (Tryd.prog.cellsOf 9)) = some y2 := (hf 2 _ rfl).trans e2
    rw [cellsInt] at f0 f1
    rw [cellsString] at f2
    obtain ⟨k, g0, _, w0⟩ := DataW.trod_int Tryd.underlying3 f0
    obtain ⟨q, g1, _, w1⟩ := DataW.trod_int Tryd.underlying3 f1
    obtain ⟨s, g2, _, w2⟩ := DataW.trod_string Tryd.underlying9 f2
    obtain rfl : c0 = .int .i64 k := by simpa using g0
    obtain rfl : c1 = .int .i64 q := by simpa using g1
    obtain rfl : c2 = .string s := by simpa using g2
    exact ⟨⟨k, q, s⟩, rfl, bounds_i64 w0, bounds_i64 w1, w2⟩
theorem ops_open {n : Nat} {v : Value} {x : DataW H × List MemPlace} (h : DataW.trod enc Tryd.prog w base sp held n 22 [v] = some x) :
    ∃ L f, OpsIn w v L f := by
  rcases Deep.open_slice Tryd.underlying22 h with ⟨hv, _⟩ | ⟨a, len, cap, m, q, D, Pl, hv, _, hl, hm, hmm, hx, hi⟩
  · simp only [List.cons.injEq, and_true] at hv
    exact ⟨0, fun _ => default, none, 0, hv, by omega, fun h => absurd h (Nat.lt_irrefl _)⟩
  · simp only [List.cons.injEq, and_true] at hv
    have hlm : len ≤ m := by rw [hmm]; split <;> omega
    obtain ⟨f, hf⟩ := Deep.choose_lt (α := OpD) (n := len) (p := fun i d => (∀ j, j < 3 → w.cell? ((a.add (i * 3)).add j) = [Value.int .i64 d.k, Value.int .i64 d.n, Value.string d.s][j]?) ∧ d.ok) (fun i hil => by
      obtain ⟨cs', h1, h2⟩ := hi i (by omega)
      obtain ⟨d, rfl, hd⟩ := op_open h2
      rw [cellsOp] at h1
      exact ⟨d, (World.cells?_some h1).2.2, hd⟩)
    refine ⟨len, f, some a, cap, hv, by unfold maxLen at hm; omega, fun h0 => ?_⟩
    obtain ⟨b, off, spot⟩ := a
    have hc0 := (hf 0 h0).1 0 (by omega)
    have hspot : spot = none := by
      have := World.cell?_spot (w := w) (a := ((⟨b, off, spot⟩ : Addr).add (0 * 3)).add 0) hc0
      simpa [Addr.add] using this
    subst hspot
    have hadd : ∀ i j : Nat, ((⟨b, off, none⟩ : Addr).add (i * 3)).add j = ⟨b, off + i * 3 + j, none⟩ := fun i j => by
      rw [Go.WideShapes.add_plain, Go.WideShapes.add_plain]
    refine ⟨b, off, rfl, ?_, fun i hil => ⟨⟨?_, ?_, ?_⟩, (hf i hil).2⟩⟩
    · rw [hadd] at hc0
      exact World.block_lt_of_cell? w _ hc0
    · have := (hf i hil).1 0 (by omega); rw [hadd] at this; exact this
    · have := (hf i hil).1 1 (by omega); rw [hadd] at this; exact this
    · have := (hf i hil).1 2 (by omega); rw [hadd] at this; exact this
end

/-- how many letters the first k texts have -/
def total (f : Nat → OpD) : Nat → Nat
  | 0 => 0
  | k + 1 => total f k + (f k).s.size
/-- what light answers -/
def lightB (L : Nat) (f : Nat → OpD) : Bool := decide (L ≤ 60 ∧ total f L ≤ 20000)

theorem total_le (f : Nat → OpD) (k : Nat) : ∀ j, j ≤ k → total f j ≤ total f k := by
  induction k with
  | zero => intro j hj; obtain rfl : j = 0 := by omega
            exact Nat.le_refl _
  | succ k ih =>
    intro j hj
    by_cases h : j = k + 1
    · rw [h]; exact Nat.le_refl _
    · have := ih j (by omega)
      simp only [total]; omega

theorem light_any (w : World) (v : Value) (L : Nat) (f : Nat → OpD) (h : OpsIn w v L f) :
    Calls Tryd.prog 10 #[v] w fun r w' => r = .returned (.bool (lightB L f)) ∧ w = w' := by
  obtain ⟨a, c, rfl, hL, hc⟩ := h
  obtain ⟨d, hd⟩ : ∃ d, d = lightB L f := ⟨_, rfl⟩
  rw [← hd]
  have HD := Lib.hid hd
  clear hd
  go_enter Tryd.func10, Tryd.ntmps10
  go_wp2
  go_loop [3, 4] (fun q i => ∃ k : Nat, k ≤ L ∧ k ≤ 100 ∧ i = .int .i64 k ∧ total f k ≤ 20000 ∧ q = .int .i64 (20000 - (total f k : Int))) (fun _ i => L - (RowKit.intOf i).toNat)
  case atStart => exact ⟨0, Nat.zero_le _, by omega, rfl, by simp [total], rfl⟩
  case round =>
    obtain ⟨k, hk, hk2, rfl, ht, rfl⟩ := hrel
    by_cases hlt : k < L
    · obtain ⟨b, off, rfl, hb, hcc⟩ := hc (by omega)
      obtain ⟨⟨_, _, c2⟩, _, _, hsz⟩ := hcc k hlt
      unfold maxLen at hsz
      have hge : decide ((0 : Int) ≤ 20000 - (total f k : Int)) = true := decide_eq_true (by omega)
      by_cases h100 : k < 100
      · by_cases hr : 20000 - (total f k : Int) < ((f k).s.size : Int)
        · have hdf := Lib.hid (HD.out.trans (decide_eq_false (fun h => by have h1 := total_le f L (k + 1) (by omega); have h2 : total f (k + 1) = total f k + (f k).s.size := rfl; omega)))
          go_wp2
          go_ret
          exact ⟨by rw [hdf.out]; rfl, rfl⟩
        · have hnx : total f (k + 1) = total f k + (f k).s.size := rfl
          have HN := Lib.hid hnx
          have hle : total f (k + 1) ≤ 20000 := by omega
          have hq : (20000 - (total f k : Int) - ((f k).s.size : Int)) = 20000 - (total f (k + 1) : Int) := by omega
          have HQ := Lib.hid hq
          have hszb : (f k).s.size ≤ 20000 := by omega
          clear hnx hq
          go_wp2
          go_round
          case rel => exact ⟨k + 1, by omega, by omega, by go_num, hle, congrArg _ HQ.out⟩
          case measure => simp [RowKit.intOf]; omega
      · have h60 : decide ((L : Int) ≤ 60) = false := decide_eq_false (by omega)
        have h60' : decide (L ≤ 60) = false := decide_eq_false (by omega)
        have hdf := Lib.hid (HD.out.trans (decide_eq_false (fun h => by omega)))
        go_wp2
        go_ret
        exact ⟨by rw [hdf.out]; rfl, rfl⟩
    · obtain rfl : k = L := by omega
      by_cases h60 : k ≤ 60
      · have h60' : decide ((k : Int) ≤ 60) = true := decide_eq_true (by omega)
        have hge : decide ((0 : Int) ≤ 20000 - (total f k : Int)) = true := decide_eq_true (by omega)
        have hdt := Lib.hid (HD.out.trans (decide_eq_true ⟨h60, ht⟩))
        go_wp2
        go_ret
        exact ⟨by rw [hdt.out]; rfl, rfl⟩
      · have h60' : decide ((k : Int) ≤ 60) = false := decide_eq_false (by omega)
        have hge : decide ((0 : Int) ≤ 20000 - (total f k : Int)) = true := decide_eq_true (by omega)
        have hdf := Lib.hid (HD.out.trans (decide_eq_false (fun h => h60 h.1)))
        go_wp2
        go_ret
        exact ⟨by rw [hdf.out]; rfl, rfl⟩

end Go.Proofs.YtadcmjcafimkeaaDoor.P1
