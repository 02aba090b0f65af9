/-
  The book, Ints: copied.
-/
import Derived.Test.YtoiaamijjcjjiaaK3Ints
namespace Go.Proofs.Ytoiaamijjcjjiaa.PK
open Go Go.RowKit Go.Lib

set_option maxRecDepth 100000 in
theorem copyInts_any (w : World) (v : Value) (l : List (List Value)) (h : ElemsIn kInts w v l) (hl : l.length ≤ 1000000) :
    Calls Try.prog 31 #[v] w fun e w' => ∃ (a : Option Addr) (n c : Nat), e = .returned (.slice a n c) ∧ (tRow kInts (.slice a n c) l).At w' w.heap.size ∧ Below w.heap.size w w' := by
  obtain ⟨i0, hi, hz0, hz1, hz2⟩ := info_parts infoEInts
  have key : Calls Try.prog 31 #[v] w fun e w' => ∃ u, e = .returned u ∧ w'.ownsRow w.heap.size 3 1 u l.length l.flatten ∧ Below w.heap.size w w' := by
    have h0 := h
    obtain ⟨a, c, rfl, hn, _, hk, hc⟩ := h
    have hfl : l.flatten.length = l.length * 1 := hk.flat
    have hone := hk.one
    rcases a with _ | a
    · obtain rfl := hn rfl
      have hl0 : l = [] := by
        rcases l with _ | ⟨s, l⟩
        · rfl
        · obtain ⟨b, off, h, _⟩ := hc (by simp)
          cases h
      subst hl0
      clear hn hc hl h0 hk hfl hone
      go_enter Try.func31, Try.ntmps31
      go_wp2_with (at_builtin; refine wpList_append_own_none rfl _ _ 22 rfl w.heap.size 3 i0 1 Try.underlying22 hi _ 0 [] rfl (World.ownsRow_nil _ _ _ _) rfl ?_)
      go_ret
      exact ⟨_, rfl, World.ownsRow_nil _ _ _ _, Below.refl _ _⟩
    · have hnews : ∀ j u, l.flatten[j]? = some u → w.cell? (a.add j) = some u := fun j u hu => h0.flat rfl hu
      clear hn hc h0 hk
      go_enter Try.func31, Try.ntmps31
      go_wp2_with (at_builtin; refine wpList_append_own _ rfl _ _ 22 rfl w.heap.size 3 i0 (.int .i64 0) 1 8 Try.underlying22 hi hz0 hz1 hz2 rfl (by decide) _ 0 [] rfl (World.ownsRow_nil _ _ _ _) a l.length c l.flatten rfl ?c0 hnews ?c2 ?c3 ?c4 (Nat.le_refl _) ?_)
      case c0 => exact hfl
      case c2 => exact hone
      case c3 => unfold maxLen; omega
      case c4 => omega
      intro v' w2 hown hgrow _
      have hB : Below w.heap.size w w2 := (Below.refl _ w).grown hgrow (Nat.le_refl _) (fun k hk => by cases hk)
      clear hnews hgrow
      go_wp2
      go_ret
      exact ⟨_, rfl, hown, hB⟩
  refine key.mono fun e w' ⟨u, h1, h2, h3⟩ => ?_
  obtain ⟨a, n, c, rfl⟩ := owns_shape h2
  exact ⟨a, n, c, h1, h2, h3⟩

end Go.Proofs.Ytoiaamijjcjjiaa.PK
