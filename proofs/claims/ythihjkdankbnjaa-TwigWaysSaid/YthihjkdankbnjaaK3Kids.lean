/-
  The book, Kids: its kind; copied, compared, marks.
-/
import Derived.Test.YthihjkdankbnjaaK2
namespace Go.Proofs.Ythihjkdankbnjaa.PK
open Go Go.RowKit Go.Lib

/-- the kind -/
def kKids : Kd where
  e := 26
  n := 2
  te := 22
  p := 6
  ok := fun y => ∃ (s : ByteArray) (x : Int), y = [.string s, .int .i64 x]
  mark := fun i k => [.string ⟨#[]⟩, .int .i64 (-1000 * (i : Int) - (k : Int) - 1)]
  len := by rintro _ ⟨s, x, rfl⟩; rfl
  one := by
    rintro _ ⟨s, x, rfl⟩ u hu
    simp only [List.mem_cons, List.not_mem_nil, or_false] at hu
    rcases hu with rfl | rfl <;> rfl
  mok := fun i k => ⟨_, _, rfl⟩
  pos := by decide
theorem infoEKids : (Try.prog.info? 26).map (fun i => (i.zero, i.size, i.bytes)) = some (some (Value.agg #[.string ⟨#[]⟩, .int .i64 0]), 2, 24) := by kernel_rfl
theorem infoSKids : (Try.prog.info? 22).map (fun i => (i.zero, i.size, i.bytes)) = some (some (.slice none 0 0), 1, 24) := by kernel_rfl
set_option maxRecDepth 100000 in
theorem sameKids_same (w : World) (u v : Value) (l : List (List Value)) (h1 : ElemsIn kKids w u l) (h2 : ElemsIn kKids w v l) :
    Calls Try.prog 12 #[u, v] w fun e w' => e = .returned (.bool true) ∧ Below w.heap.size w w' := by
  obtain ⟨a, c, rfl, _, hl, hok, hc⟩ := h1
  obtain ⟨a2, c2, rfl, _, _, _, hc2⟩ := h2
  go_enter Try.func12, Try.ntmps12
  go_wp2
  go_loopw [5] (fun i wr => ∃ k q : Nat, k ≤ l.length ∧ i = .int .i64 k ∧ wr = w.drewN q) (fun i _ => l.length - (RowKit.intOf i).toNat)
  case atStart => exact ⟨0, 0, Nat.zero_le _, rfl, rfl⟩
  case round =>
    obtain ⟨k, q, hk, rfl, rfl⟩ := hrel
    by_cases hlt : k < l.length
    · obtain ⟨b, off, rfl, hb, hcc⟩ := hc (by omega)
      obtain ⟨b2, off2, rfl, hb2, hcc2⟩ := hc2 (by omega)
      obtain ⟨y, hy⟩ : ∃ y, l[k]? = some y := ⟨_, List.getElem?_eq_getElem hlt⟩
      obtain ⟨s, x, rfl⟩ := hok y (List.mem_of_getElem? hy)
      have c0 : w.cell? ⟨b, off + k * 2, none⟩ = some (.string s) := by
        have h9 := hcc k _ hy 0 _ rfl
        rwa [show off + (k * kKids.n + 0) = off + k * 2 by show off + (k * 2 + 0) = off + k * 2; omega] at h9
      have d0 : w.cell? ⟨b2, off2 + k * 2, none⟩ = some (.string s) := by
        have h9 := hcc2 k _ hy 0 _ rfl
        rwa [show off2 + (k * kKids.n + 0) = off2 + k * 2 by show off2 + (k * 2 + 0) = off2 + k * 2; omega] at h9
      have c1 : w.cell? ⟨b, off + k * 2 + 1, none⟩ = some (.int .i64 x) := by
        have h9 := hcc k _ hy 1 _ rfl
        rwa [show off + (k * kKids.n + 1) = off + k * 2 + 1 by show off + (k * 2 + 1) = off + k * 2 + 1; omega] at h9
      have d1 : w.cell? ⟨b2, off2 + k * 2 + 1, none⟩ = some (.int .i64 x) := by
        have h9 := hcc2 k _ hy 1 _ rfl
        rwa [show off2 + (k * kKids.n + 1) = off2 + k * 2 + 1 by show off2 + (k * 2 + 1) = off2 + k * 2 + 1; omega] at h9
      have kk : (k : Int) < (l.length : Int) := by omega
      have kk0 : (0 : Int) ≤ (k : Int) := by omega
      have e0 : (s.toList == s.toList) = true := beq_self_eq_true _
      have e1 : (x == x) = true := beq_self_eq_true _
      clear hcc hcc2 hc hc2 hy hok
      go_wp2
      go_quiet (fail)
      go_wp2
      go_roundw
      case rel => exact ⟨k + 1, _, by omega, by go_num, rfl⟩
      case measure => simp [RowKit.intOf]; omega
    · clear hc hc2 hok
      go_wp2
      go_ret
      exact ⟨rfl, ⟨rfl, rfl, rfl, Nat.le_refl _, fun _ _ => rfl⟩⟩
end Go.Proofs.Ythihjkdankbnjaa.PK
