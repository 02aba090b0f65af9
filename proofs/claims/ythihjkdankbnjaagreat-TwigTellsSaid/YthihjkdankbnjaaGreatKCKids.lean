/-
  The book, Kids: copied.
-/
import Derived.Test.YthihjkdankbnjaaGreatK3Kids
namespace Go.Proofs.YthihjkdankbnjaaGreat.PK
open Go Go.RowKit Go.Lib

set_option maxRecDepth 100000 in
theorem copyKids_any (w : World) (v : Value) (l : List (List Value)) (h : ElemsIn kKids w v l) (hl : l.length ≤ 1000000) :
    Calls Tryz.prog 21 #[v] w fun e w' => ∃ (a : Option Addr) (n c : Nat), e = .returned (.slice a n c) ∧ (tRow kKids (.slice a n c) l).At w' w.heap.size ∧ Below w.heap.size w w' := by
  obtain ⟨i0, hi, hz0, hz1, hz2⟩ := info_parts infoEKids
  have key : Calls Tryz.prog 21 #[v] w fun e w' => ∃ u, e = .returned u ∧ w'.ownsRow w.heap.size 50 2 u l.length l.flatten ∧ Below w.heap.size w w' := by
    have h0 := h
    obtain ⟨a, c, rfl, hn, _, hk, hc⟩ := h
    have hfl : l.flatten.length = l.length * 2 := hk.flat
    have hone := hk.one
    rcases a with _ | a
    · obtain rfl := hn rfl
      have hl0 : l = [] := by
        rcases l with _ | ⟨s, l⟩
        · rfl
        · obtain ⟨b, off, h, _⟩ := hc (by simp)
          cases h
      subst hl0
      clear hn hc hl h0 hk hfl hone
      go_enter Tryz.func21, Tryz.ntmps21
      go_wp2_with (at_builtin; refine wpList_append_own_none rfl _ _ 22 rfl w.heap.size 50 i0 2 Tryz.underlying22 hi _ 0 [] rfl (World.ownsRow_nil _ _ _ _) rfl ?_)
      go_ret
      exact ⟨_, rfl, World.ownsRow_nil _ _ _ _, Below.refl _ _⟩
    · have hnews : ∀ j u, l.flatten[j]? = some u → w.cell? (a.add j) = some u := fun j u hu => h0.flat rfl hu
      clear hn hc h0 hk
      go_enter Tryz.func21, Tryz.ntmps21
      go_wp2_with (at_builtin; refine wpList_append_own _ rfl _ _ 22 rfl w.heap.size 50 i0 (Value.agg #[.string ⟨#[]⟩, .int .i64 0]) 2 24 Tryz.underlying22 hi hz0 hz1 hz2 rfl (by decide) _ 0 [] rfl (World.ownsRow_nil _ _ _ _) a l.length c l.flatten rfl ?c0 hnews ?c2 ?c3 ?c4 (Nat.le_refl _) ?_)
      case c0 => exact hfl
      case c2 => exact hone
      case c3 => unfold maxLen; omega
      case c4 => omega
      intro v' w2 hown hgrow _
      have hB : Below w.heap.size w w2 := (Below.refl _ w).grown hgrow (Nat.le_refl _) (fun k hk => by cases hk)
      clear hnews hgrow
      go_wp2
      go_ret
      exact ⟨_, rfl, hown, hB⟩
  refine key.mono fun e w' ⟨u, h1, h2, h3⟩ => ?_
  obtain ⟨a, n, c, rfl⟩ := owns_shape h2
  exact ⟨a, n, c, h1, h2, h3⟩

end Go.Proofs.YthihjkdankbnjaaGreat.PK
