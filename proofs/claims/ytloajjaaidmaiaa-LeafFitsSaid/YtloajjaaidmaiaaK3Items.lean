/-
  The book, Items: its kind; copied, compared, marks.
-/
import Derived.Test.YtloajjaaidmaiaaK2
namespace Go.Proofs.Ytloajjaaidmaiaa.PK
open Go Go.RowKit Go.Lib

/-- the kind -/
def kItems : Kd where
  e := 29
  n := 3
  te := 22
  p := 4
  ok := fun y => ∃ (s : ByteArray) (t : ByteArray) (x : Int), y = [.string s, .string t, .int .i64 x]
  mark := fun i k => [.string ⟨#[]⟩, .string ⟨#[]⟩, .int .i64 (-1000 * (i : Int) - (k : Int) - 1)]
  len := by rintro _ ⟨s, t, x, rfl⟩; rfl
  one := by
    rintro _ ⟨s, t, x, rfl⟩ u hu
    simp only [List.mem_cons, List.not_mem_nil, or_false] at hu
    rcases hu with rfl | rfl | rfl <;> rfl
  mok := fun i k => ⟨_, _, _, rfl⟩
  pos := by decide
theorem infoEItems : (Try.prog.info? 29).map (fun i => (i.zero, i.size, i.bytes)) = some (some (Value.agg #[.string ⟨#[]⟩, .string ⟨#[]⟩, .int .i64 0]), 3, 40) := by kernel_rfl
theorem infoSItems : (Try.prog.info? 22).map (fun i => (i.zero, i.size, i.bytes)) = some (some (.slice none 0 0), 1, 24) := by kernel_rfl
set_option maxRecDepth 100000 in
theorem sameItems_same (w : World) (u v : Value) (l : List (List Value)) (h1 : ElemsIn kItems w u l) (h2 : ElemsIn kItems w v l) :
    Calls Try.prog 18 #[u, v] w fun e w' => e = .returned (.bool true) ∧ Below w.heap.size w w' := by
  obtain ⟨a, c, rfl, _, hl, hok, hc⟩ := h1
  obtain ⟨a2, c2, rfl, _, _, _, hc2⟩ := h2
  go_enter Try.func18, Try.ntmps18
  go_wp2
  go_loopw [5] (fun i wr => ∃ k q : Nat, k ≤ l.length ∧ i = .int .i64 k ∧ wr = w.drewN q) (fun i _ => l.length - (RowKit.intOf i).toNat)
  case atStart => exact ⟨0, 0, Nat.zero_le _, rfl, rfl⟩
  case round =>
    obtain ⟨k, q, hk, rfl, rfl⟩ := hrel
    by_cases hlt : k < l.length
    · obtain ⟨b, off, rfl, hb, hcc⟩ := hc (by omega)
      obtain ⟨b2, off2, rfl, hb2, hcc2⟩ := hc2 (by omega)
      obtain ⟨y, hy⟩ : ∃ y, l[k]? = some y := ⟨_, List.getElem?_eq_getElem hlt⟩
      obtain ⟨s, t, x, rfl⟩ := hok y (List.mem_of_getElem? hy)
      have c0 : w.cell? ⟨b, off + k * 3, none⟩ = some (.string s) := by
        have h9 := hcc k _ hy 0 _ rfl
        rwa [show off + (k * kItems.n + 0) = off + k * 3 by show off + (k * 3 + 0) = off + k * 3; omega] at h9
      have d0 : w.cell? ⟨b2, off2 + k * 3, none⟩ = some (.string s) := by
        have h9 := hcc2 k _ hy 0 _ rfl
        rwa [show off2 + (k * kItems.n + 0) = off2 + k * 3 by show off2 + (k * 3 + 0) = off2 + k * 3; omega] at h9
      have c1 : w.cell? ⟨b, off + k * 3 + 1, none⟩ = some (.string t) := by
        have h9 := hcc k _ hy 1 _ rfl
        rwa [show off + (k * kItems.n + 1) = off + k * 3 + 1 by show off + (k * 3 + 1) = off + k * 3 + 1; omega] at h9
      have d1 : w.cell? ⟨b2, off2 + k * 3 + 1, none⟩ = some (.string t) := by
        have h9 := hcc2 k _ hy 1 _ rfl
        rwa [show off2 + (k * kItems.n + 1) = off2 + k * 3 + 1 by show off2 + (k * 3 + 1) = off2 + k * 3 + 1; omega] at h9
      have c2 : w.cell? ⟨b, off + k * 3 + 2, none⟩ = some (.int .i64 x) := by
        have h9 := hcc k _ hy 2 _ rfl
        rwa [show off + (k * kItems.n + 2) = off + k * 3 + 2 by show off + (k * 3 + 2) = off + k * 3 + 2; omega] at h9
      have d2 : w.cell? ⟨b2, off2 + k * 3 + 2, none⟩ = some (.int .i64 x) := by
        have h9 := hcc2 k _ hy 2 _ rfl
        rwa [show off2 + (k * kItems.n + 2) = off2 + k * 3 + 2 by show off2 + (k * 3 + 2) = off2 + k * 3 + 2; omega] at h9
      have kk : (k : Int) < (l.length : Int) := by omega
      have kk0 : (0 : Int) ≤ (k : Int) := by omega
      have e0 : (s.toList == s.toList) = true := beq_self_eq_true _
      have e1 : (t.toList == t.toList) = true := beq_self_eq_true _
      have e2 : (x == x) = true := beq_self_eq_true _
      clear hcc hcc2 hc hc2 hy hok
      go_wp2
      go_quiet (fail)
      go_wp2
      go_roundw
      case rel => exact ⟨k + 1, _, by omega, by go_num, rfl⟩
      case measure => simp [RowKit.intOf]; omega
    · clear hc hc2 hok
      go_wp2
      go_ret
      exact ⟨rfl, ⟨rfl, rfl, rfl, Nat.le_refl _, fun _ _ => rfl⟩⟩
end Go.Proofs.Ytloajjaaidmaiaa.PK
