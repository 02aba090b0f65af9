/-
  The program's list of free ids: Clone, Copy, New, Load, Need. (For any seat that has free.List.)
-/
import Derived.Test.YtoiaamijjcjjiaaG9
namespace Go.Proofs.Ytoiaamijjcjjiaa.P7
open Go Go.RowKit Go.Lib Go.Proofs.Ytoiaamijjcjjiaa.PK

theorem rws_join {w0 w w' : World} {R X : List Row} (h : Rws w0 R w) (k : Rws w X w') : Rws w0 (X ++ R) w' := by
  refine ⟨fun x hx => ?_, ?_, thenBelow h.below k.below⟩
  · rcases List.mem_append.1 hx with q | q
    · exact owns_lo (k.own x q) h.below.size
    · exact (h.over k.below).own x q
  · rw [List.filterMap_append, List.nodup_append]
    refine ⟨k.nd, h.nd, fun a ha b hb e => ?_⟩
    subst e
    obtain ⟨x, hx, hxa⟩ := List.mem_filterMap.1 ha
    obtain ⟨y, hy, hya⟩ := List.mem_filterMap.1 hb
    have h1 := (k.lt hx hxa).1
    have h2 := (h.lt hy hya).2
    omega
theorem rise_bound {b : Int} : ∀ {l : List Int} {a : Int}, a ≤ b → Rising l → (∀ x ∈ l, a ≤ x ∧ x < b) → (l.length : Int) ≤ b - a
  | [], a, h, _, _ => by simp; omega
  | z :: l, a, h, hr, hb => by
    have hr' := List.pairwise_cons.1 hr
    have hz := hb z List.mem_cons_self
    have ih := rise_bound (l := l) (a := z + 1) (by omega) hr'.2 (fun x hx => ⟨by have := hr'.1 x hx; omega, (hb x (List.mem_cons_of_mem _ hx)).2⟩)
    rw [List.length_cons]
    omega
set_option maxRecDepth 100000 in
theorem clone_any (w : World) (lo : Nat) (sv : Value) (S : List Sp) (h : (sRow sv S).At w lo) (hl : S.length ≤ 100000) :
    Calls Try.prog 38 #[sv] w fun e w' => ∃ v', e = .returned v' ∧ (sRow v' S).At w' w.heap.size ∧ Below w.heap.size w w' := by
  obtain ⟨i0, hi0, hz0, hz1, hz2⟩ := info_parts infoSp
  obtain ⟨z0, hz9⟩ : ∃ z, z = Value.agg #[.int .i64 0, .bool false, .int .i64 0] := ⟨_, rfl⟩
  rw [← hz9] at hz0
  have hzc : z0.cells.size = 3 := by rw [hz9]; exact rfl
  clear hz9
  have q66 : ∀ (w : World) (a : Option Addr) (n c n' c' : Nat), (binOp .eql 66 (.slice a n c) (.slice none n' c')).run Try.prog w = .ok (.bool a.isNone) w := fun w a n c n' c' => Lib.run_eql_slice_nil w _ _ a n c n' c' Try.underlying66
  rcases h.slice with ⟨e, h0, hf⟩ | ⟨g, cap, e, hb, q1, q2⟩
  · have e' : sv = .slice none 0 0 := e
    have h0' : S.length = 0 := h0
    obtain rfl := List.eq_nil_of_length_eq_zero h0'
    subst e'
    clear h e h0 hf h0'
    go_enter Try.func38, Try.ntmps38
    go_wp2
    go_ret
    exact ⟨_, rfl, World.ownsRow_nil _ _ _ _, Below.refl _ _⟩
  · have e' : sv = .slice (some ⟨g, 0, none⟩) S.length cap := e
    subst e'
    have hgw := ((h.lt g hb).2 : g < w.heap.size)
    have HC := Lib.hid (fun (j : Nat) (u : Value) (hj : (spFlat S)[j]? = some u) => show (w.alloc (.cells #[] 70)).cell? ((⟨g, 0, none⟩ : Addr).add j) = some u by
      rw [Go.WideShapes.add_plain, Nat.zero_add, (below_new w (.cells #[] 70)).cell (p := ⟨g, j, none⟩) hgw]
      exact h.cell hb hj)
    have HO : Hid ((w.alloc (.cells #[] 70)).ownsRow w.heap.size 70 3 (.slice (some ⟨w.heap.size, 0, none⟩) 0 0) 0 []) := ⟨rfl, .inr ⟨w.heap.size, 0, #[], rfl, Nat.le_refl _, new_at w #[] _, Nat.le_refl _, by unfold maxLen; omega, rfl, rfl⟩⟩
    have HL := Lib.hid (spFlat_len S)
    have HO1 := Lib.hid (spFlat_one S)
    obtain ⟨N, hN⟩ : ∃ N, N = S.length := ⟨_, rfl⟩
    have HN := Lib.hid hN
    rw [← hN] at hl ⊢
    clear h e hb q1 q2 hN
    go_enter Try.func38, Try.ntmps38
    go_wp2_with (at_builtin; refine wpList_append_own _ rfl _ _ 66 rfl w.heap.size 70 i0 z0 3 24 Try.underlying66 hi0 hz0 hz1 hz2 hzc (by decide) _ 0 [] rfl HO.out ⟨g, 0, none⟩ N cap (spFlat S) rfl (by rw [HL.out, HN.out]) HC.out HO1.out (by unfold maxLen; omega) (by omega) (by simp) ?_; intro v' w2 hown' hgrow _)
    have H1 := Lib.hid hown'
    have H2 := Lib.hid (show Below w.heap.size w w2 from (below_new w _).grown hgrow (by simp) (fun z hz => by cases hz; exact Nat.le_refl _))
    clear hown' hgrow
    go_wp2
    go_ret
    refine ⟨_, rfl, ?_, H2.out⟩
    have h9 := H1.out
    rw [Nat.zero_add, List.nil_append, HN.out] at h9
    exact h9
section
variable {w0 w w1 w2 w' : World} {R : List Row} {r : Nat} {P : PM}
theorem PAt.copy_ (h : PAt w0 R r P w) : Calls Try.prog 19 #[.pointer (some ⟨r, 0, none⟩)] w fun e w' => ∃ r2 v', e = .returned (.pointer (some ⟨r2, 0, none⟩)) ∧ Rws w (({ P with sv := v' } : PM).rows r2) w' := by
  obtain ⟨a, c, hsv, hga, hNc, hcm, hx, _⟩ := h.shape
  obtain ⟨N, hN⟩ : ∃ N, N = P.S.length := ⟨_, rfl⟩
  rw [← hN] at hx hsv
  have HX := Lib.hid (fun W (hW : Below w.heap.size w W) => hx W (h.over hW))
  have HC : Hid (∀ W, Below w.heap.size w W → Calls Try.prog 38 #[.slice a N c] W fun e w' => ∃ a' n' c', e = .returned (.slice a' n' c') ∧ (sRow (.slice a' n' c') P.S).At w' W.heap.size ∧ Below W.heap.size W w') := fun W hW => by
    have h1 := clone_any W w0.heap.size P.sv P.S (h.over hW).srow (by have := h.few; omega)
    rw [hsv] at h1
    refine h1.mono ?_
    rintro e w' ⟨v', rfl, e1, e2⟩
    obtain ⟨a', n', c', rfl⟩ := owns_shape e1
    exact ⟨a', n', c', rfl, e1, e2⟩
  have HRf := Lib.hid (Below.refl w.heap.size w)
  clear h hx hsv hga hNc hcm hN
  go_enter Try.func19, Try.ntmps19
  go_wp2_with fail
  go_region_held3 (fun W => W.cell? ⟨r, 0, none⟩ = some (.int .i64 P.pages) ∧ W.cell? ⟨r, 1, none⟩ = some (.slice a N c)) (first | exact HX.out _ HRf.out.drew | exact HX.out _ HRf.out | exact HX.out _ HB2.out | exact HX.out _ (grow HB2.out _)) ((go_at_call 38; (with_reducible refine (HC.out _ (by first | exact HRf.out.drew | exact HRf.out)).mono ?_); rintro e w2 ⟨a', n', c', rfl, h1, h2⟩; have HS2 := Lib.hid (owns_lo h1 (show w.heap.size ≤ _ from Nat.le_refl _)); have HB2 := Lib.hid (show Below w.heap.size w w2 from (by first | exact HRf.out.drew.trans h2 | exact h2)); clear h1 h2))
  all_goals
    go_wp2
    go_ret
    exact ⟨_, _, rfl, ((Rws.nil w).add HB2.out HS2.out).new _ _ (by show 2 ≤ maxLen; unfold maxLen; omega)⟩
theorem new_ (w : World) (p : Int) : Calls Try.prog 12 #[.int .i64 p] w fun e w' => e = .returned (.pointer (some ⟨w.heap.size, 0, none⟩)) ∧ Rws w (({ sv := .slice none 0 0, pages := min (max p 2) 4000, S := [] } : PM).rows w.heap.size) w' := by
  go_enter Try.func12, Try.ntmps12
  go_wp2
  go_ret
  exact ⟨rfl, (((Rws.nil w).add (Below.refl _ _) (x := sRow (.slice none 0 0) []) (World.ownsRow_nil _ _ _ _)).new _ _ (by show 2 ≤ maxLen; unfold maxLen; omega))⟩
theorem need_ (w : World) (n : Int) (h1 : 1 ≤ n) (h2 : n ≤ 1000) : Calls Try.prog 30 #[.int .i64 n] w fun e w' => e = .returned (.int .i64 ((n - 1) / 113 + 1)) ∧ w = w' := by
  have d1 : decide (n ≤ 0) = false := decide_eq_false (by omega)
  go_enter Try.func30, Try.ntmps30
  go_wp2
  go_ret
  exact ⟨rfl, rfl⟩
end

end Go.Proofs.Ytoiaamijjcjjiaa.P7
