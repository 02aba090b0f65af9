/-
  slices.Insert at rows of pages that are free or pending: one element. (The program's list of free ids.)
-/
import Derived.Test.YtoiaamijjcjjiaaG1
import Derived.Shelf.Spec.SlicesInsert
import Derived.Lib.Overlaps
import Derived.Lib.AppendZerosOnto
import Derived.Laws.NewBlocks
namespace Go.Proofs.Ytoiaamijjcjjiaa.P7
open Go Go.RowKit Go.Lib Go.Proofs.Ytoiaamijjcjjiaa.PK

theorem run_copyN {P : Program} (w : World) (dT sT ty e : TypeId) (b o dLen dCap : Nat) (a : Addr) (sLen sCap size m : Nat) (cs : List Value)
    (hu : P.underlying dT = some (.slice e)) (hs : (P.info? e).map (·.size) = some size) (hm : m = Nat.min sLen dLen) (hn : cs.length = m * size)
    (hsrc : ∀ j v, cs[j]? = some v → w.cell? (a.add j) = some v) (hc : ∀ j, j < cs.length → (w.cell? ⟨b, o + j, none⟩).isSome = true ∧ w.frozen? ⟨b, o + j, none⟩ = false) (h1 : ∀ v ∈ cs, v.oneCell' = true) :
    (Builtin.copy_ #[dT, sT] ty #[.slice (some ⟨b, o, none⟩) dLen dCap, .slice (some a) sLen sCap]).run P w = .ok (goInt m) (w.setCells b o cs) := by
  have hfc := run_firstCells_some (P := P) w size m a sLen sCap cs hn hsrc
  have hst := run_storeCells_cells (P := P) b o cs 0 w (by simpa using fun j hj => (hc j hj).1) (by simpa using fun j hj => (hc j hj).2) h1
  simp only [Nat.add_zero] at hst
  cases hq : P.info? e with
  | none => simp [hq] at hs
  | some i =>
    have hi : i.size = size := by simpa [hq] using hs
    subst hm hi
    simp [Builtin.copy_, run_underlying hu, Builtin.lenOf, sizeOf, typeInfo, hq, hfc, hst]
theorem spSize : (Try.prog.info? 70).map (·.size) = some 3 := by kernel_rfl
theorem spZ : ∀ w, (Go.sizeOf 70).run Try.prog w = .ok 3 w := fun w => by
  obtain ⟨i0, hi, hz0, hz1, hz2⟩ := info_parts infoSp
  simp [sizeOf, typeInfo, hi, hz1]
theorem over_apart (w : World) (vb g o n c l lc : Nat) (x : List Value) (hvb : vb ≠ g) (hx : w.heap[vb]? = some (.cells x.toArray 70 (0, 0))) (cur : Array Value) (hg : w.heap[g]? = some (.cells cur 70 (0, 0))) (hne : cur.size ≠ 0) :
    (callFunc 101 #[.slice (some ⟨vb, 0, none⟩) n c, .slice (some ⟨g, o, none⟩) l lc]).run Try.prog w = .ok (.value (.bool false)) w := by
  rw [run_callFunc_extern Try.func101 (by kernel_rfl) (by kernel_rfl) (by kernel_rfl) (e := Extern.SlicesOverlaps.overlaps #[66, 66] #[4]) (by kernel_rfl),
    Lib.run_overlaps_apart w 66 4 70 Try.underlying66 3 spZ ⟨vb, 0, none⟩ ⟨g, o, none⟩ n c l lc hvb 70 70 x.length cur.size (by simp [World.shape?, hx]) (by simp [World.shape?, hg]) hne (by simp [World.frozen?, hx]) (by simp [World.frozen?, hx])]
  rfl
set_option maxHeartbeats 4000000 in
set_option maxRecDepth 100000 in
/-- there is room: in place -/
theorem ins_room (w : World) (g i n cap vb : Nat) (cs vs : List Value) (hi : i < n) (hroom : n + 1 ≤ cap) (hcap : cap ≤ maxLen) (hvb : vb ≠ g) (hcl : cs.length = (n - i) * 3) (hvl : vs.length = 3)
    (hcs : ∀ j u, cs[j]? = some u → w.cell? ⟨g, i * 3 + j, none⟩ = some u) (hsp : ∀ j, j < (n + 1) * 3 → (w.cell? ⟨g, j, none⟩).isSome = true ∧ w.frozen? ⟨g, j, none⟩ = false)
    (hx : w.heap[vb]? = some (.cells vs.toArray 70 (0, 0))) (cur : Array Value) (hg : w.heap[g]? = some (.cells cur 70 (0, 0))) (hne : cur.size ≠ 0) (h1c : ∀ u ∈ cs, u.oneCell' = true) (h1v : ∀ u ∈ vs, u.oneCell' = true) :
    Calls Try.prog 82 #[.slice (some ⟨g, 0, none⟩) n cap, .int .i64 i, .slice (some ⟨vb, 0, none⟩) 1 1] w fun e w' => e = .returned (.slice (some ⟨g, 0, none⟩) (n + 1) cap) ∧ ∃ q, w' = ((w.drewN q).setCells g ((i + 1) * 3) cs).setCells g (i * 3) vs := by
  have hov : ∀ lb cb, (callFunc 101 #[.slice (some ⟨vb, 0, none⟩) 1 1, .slice (some ⟨g, (i + 1) * 3, none⟩) lb cb]).run Try.prog w = .ok (.value (.bool false)) w := fun lb cb => over_apart w vb g _ 1 1 lb cb vs hvb hx cur hg hne
  have hcp1 : ∀ ty dc sc, (Builtin.copy_ #[66, 66] ty #[.slice (some ⟨g, (i + 1) * 3, none⟩) (n - i) dc, .slice (some ⟨g, i * 3, none⟩) (n + 1 - i) sc]).run Try.prog w.drew = .ok (goInt (n - i : Nat)) (w.drew.setCells g ((i + 1) * 3) cs) := fun ty dc sc =>
    run_copyN w.drew _ _ ty 70 g ((i + 1) * 3) (n - i) dc ⟨g, i * 3, none⟩ (n + 1 - i) sc 3 (n - i) cs Try.underlying66 spSize (by simp only [Nat.min_def]; split <;> omega) hcl
      (fun j v hj => by rw [Go.WideShapes.add_plain]; exact hcs j v hj) (fun j hj => hsp _ (by omega)) h1c
  obtain ⟨W1, hW1⟩ : ∃ W1, W1 = w.drew.setCells g ((i + 1) * 3) cs := ⟨_, rfl⟩
  have hsp1 : ∀ k, k < (n + 1) * 3 → (W1.cell? ⟨g, k, none⟩).isSome = true := fun k hk => by
    rw [hW1]
    exact isSome_setCells g cs ((i + 1) * 3) w.drew (fun j hj => (hsp ((i + 1) * 3 + j) (by omega)).1) k (hsp k hk).1
  have hcp2 : ∀ (W : World), (∀ x, W.cell? x = W1.cell? x) → (∀ x, W.frozen? x = W1.frozen? x) → ∀ ty dc, (Builtin.copy_ #[66, 66] ty #[.slice (some ⟨g, i * 3, none⟩) (n + 1 - i) dc, .slice (some ⟨vb, 0, none⟩) 1 1]).run Try.prog W = .ok (goInt (1 : Nat)) (W.setCells g (i * 3) vs) := fun W hWc hWf ty dc =>
    run_copyN W _ _ ty 70 g (i * 3) (n + 1 - i) dc ⟨vb, 0, none⟩ 1 1 3 1 vs Try.underlying66 spSize (by simp only [Nat.min_def]; split <;> omega) (by rw [hvl])
      (fun j v hj => by
        rw [Go.WideShapes.add_plain, Nat.zero_add, hWc, hW1, World.cell?_setCells_out g _ _ _ _ (fun h _ => absurd h hvb)]
        have := cell_at hx j
        show w.cell? _ = _
        rw [this]; simpa using hj)
      (fun j hj => ⟨by rw [hWc]; exact hsp1 _ (by omega), by rw [hWf, hW1, World.frozen?_setCells]; exact (hsp _ (by omega)).2⟩) h1v
  rw [← hW1] at hcp1
  unfold maxLen at hcap
  have hz2 : ¬ ((i : Int) = (n : Int)) := by omega
  have hz3 : ((i : Int) == (n : Int)) = false := by simp; omega
  have hz4 : ¬ ((cap : Int) < (n : Int) + 1) := by omega
  have hb0 : (0 : Int) ≤ (i : Int) := by omega
  have hb1 : (i : Int) ≤ (n : Int) := by omega
  have hb2 : ¬ (cap = i + 1) := by omega
  have hb3 : (i : Int) + 1 ≤ (n : Int) + 1 := by omega
  have hb4 : ¬ (cap = i) := by omega
  have hb5 : (i : Int) ≤ (n : Int) + 1 := by omega
  have hb6 : (0 : Int) ≤ (i : Int) + 1 := by omega
  have hw1 : IntKind.i64.wrap ((i : Int) + 1) = (i : Int) + 1 := by rw [IntKind.wrap_i64]; omega
  have htn : ((i : Int) + 1).toNat = i + 1 := by omega
  clear hsp hcs hx hg hne h1c h1v hsp1 hvl hcl
  go_enter Try.func82, Try.ntmps82
  go_wp2_with (simp only [hov])
  go_region_law (refine step_copy_runI rfl _ _ 66 66 rfl _ _ (by simp [Act.eval, Act.put]) (by simp [Act.eval, Act.put]) (hcp1 _ _ _) ?_)
  go_wp2_with (at_builtin; refine wpList_copy_runI _ rfl _ _ 66 66 rfl _ _ rfl rfl (hcp2 _ (fun _ => rfl) (fun _ => rfl) _ _) ?_)
  go_ret
  exact ⟨rfl, 1, rfl⟩

set_option maxHeartbeats 4000000 in
set_option maxRecDepth 100000 in
/-- at the end -/
theorem ins_end (w : World) (lo vb n : Nat) (sv : Value) (xs vs : List Value) (h : w.ownsRow lo 70 3 sv n xs) (hlo : lo ≤ w.heap.size) (hn : n ≤ 100000) (hvl : vs.length = 3)
    (hx : w.heap[vb]? = some (.cells vs.toArray 70 (0, 0))) (h1v : ∀ u ∈ vs, u.oneCell' = true) :
    Calls Try.prog 82 #[sv, .int .i64 n, .slice (some ⟨vb, 0, none⟩) 1 1] w fun e w' => ∃ v', e = .returned v' ∧ w'.ownsRow lo 70 3 v' (n + 1) (xs ++ vs) ∧ w.grownBy w' sv.ownBlock ∧ (v'.ownBlock = sv.ownBlock ∨ v'.ownBlock = some w.heap.size) := by
  obtain ⟨i0, hi0, hz0, hz1, hz2⟩ := info_parts infoSp
  obtain ⟨z0, hz9⟩ : ∃ z, z = Value.agg #[.int .i64 0, .bool false, .int .i64 0] := ⟨_, rfl⟩
  rw [← hz9] at hz0
  have hzc : z0.cells.size = 3 := by rw [hz9]; exact rfl
  have HX := Lib.hid (fun (j : Nat) (u : Value) (hj : vs[j]? = some u) => show w.cell? ((⟨vb, 0, none⟩ : Addr).add j) = some u by rw [Go.WideShapes.add_plain, Nat.zero_add, cell_at hx]; simpa using hj)
  have HO := Lib.hid h
  clear hz9 hx
  rcases h.2 with ⟨rfl, h0⟩ | ⟨g, cap, cur, rfl, _, _, hcap, hm, _⟩
  · subst h0
    clear h
    go_enter Try.func82, Try.ntmps82
    go_wp2_with (at_builtin; refine wpList_append_own_at _ rfl _ _ 66 rfl lo 70 i0 z0 3 24 Try.underlying66 hi0 hz0 hz1 hz2 hzc (by decide) _ 0 xs rfl HO.out ⟨vb, 0, none⟩ 1 1 vs rfl (by rw [hvl]) HX.out h1v (by unfold maxLen; omega) (by omega) hlo ?_; intro v' w2 hown' hgrow hat1 hat2)
    have H2 := Lib.hid hown'
    have H3 := Lib.hid hgrow
    have H4 := Lib.hid hat2
    clear hown' hgrow hat1 hat2 HO HX
    go_wp2
    go_ret
    exact ⟨_, rfl, H2.out, H3.out, H4.out⟩
  · clear h
    unfold maxLen at hm
    have hb1 : (n : Int) ≤ (cap : Int) := by omega
    go_enter Try.func82, Try.ntmps82
    go_wp2_with (at_builtin; refine wpList_append_own_at _ rfl _ _ 66 rfl lo 70 i0 z0 3 24 Try.underlying66 hi0 hz0 hz1 hz2 hzc (by decide) _ n xs rfl HO.out ⟨vb, 0, none⟩ 1 1 vs rfl (by rw [hvl]) HX.out h1v (by unfold maxLen; omega) (by omega) hlo ?_; intro v' w2 hown' hgrow hat1 hat2)
    all_goals
      have H2 := Lib.hid hown'
      have H3 := Lib.hid hgrow
      have H4 := Lib.hid hat2
      clear hown' hgrow hat1 hat2 HO HX
      go_wp2
      go_ret
      exact ⟨_, rfl, H2.out, H3.out, H4.out⟩
set_option maxHeartbeats 4000000 in
set_option maxRecDepth 100000 in
/-- there is no room: a new row -/
theorem ins_grow (w : World) (g i n vb : Nat) (al cs vs : List Value) (hi : i < n) (hn : n ≤ 100000) (hvb : vb < w.heap.size) (hgw : g < w.heap.size) (hal : al.length = i * 3) (hcl : cs.length = (n - i) * 3) (hvl : vs.length = 3)
    (has : ∀ j u, al[j]? = some u → w.cell? ⟨g, j, none⟩ = some u) (hcs : ∀ j u, cs[j]? = some u → w.cell? ⟨g, i * 3 + j, none⟩ = some u)
    (hx : ∀ j u, vs[j]? = some u → w.cell? ⟨vb, j, none⟩ = some u) (h1c : ∀ u ∈ cs, u.oneCell' = true) (h1v : ∀ u ∈ vs, u.oneCell' = true) :
    Calls Try.prog 82 #[.slice (some ⟨g, 0, none⟩) n n, .int .i64 i, .slice (some ⟨vb, 0, none⟩) 1 1] w fun e w' => ∃ G ROW q k, e = .returned (.slice (some ⟨w.heap.size, 0, none⟩) (n + 1) G) ∧ n + 1 ≤ G ∧ G ≤ maxLen ∧ ROW.size = G * 3 ∧ (∀ j, j < i * 3 → ROW[j]? = al[j]?) ∧
      w' = ((((w.drewN q).alloc (.cells ROW 70)).setCells w.heap.size (i * 3) vs).drewN k).setCells w.heap.size ((i + 1) * 3) cs := by
  obtain ⟨i0, hi0, hz0, hzs, hzb⟩ := info_parts infoSp
  have hold : (Builtin.firstCells i0.size i (.slice (some ⟨g, 0, none⟩) i n)).run Try.prog w.drew = .ok al.toArray w.drew := by
    rw [hzs]
    exact run_firstCells_some w.drew 3 i ⟨g, 0, none⟩ i n al (by rw [hal]) (fun j v hj => by
      rw [Go.WideShapes.add_plain, Nat.zero_add]
      exact has j v hj)
  have hkk : (n : Int) + 1 - (i : Int) = ((n + 1 - i : Nat) : Int) := by omega
  have hik : i + (n + 1 - i) = n + 1 := by omega
  obtain ⟨G, hG⟩ : ∃ G, G = grownCap w (n + 1) n 70 := ⟨_, rfl⟩
  obtain ⟨z0, hz9⟩ : ∃ z, z = Value.agg #[.int .i64 0, .bool false, .int .i64 0] := ⟨_, rfl⟩
  have hzc : z0.cells.size = 3 := by rw [hz9]; exact rfl
  rw [← hz9] at hz0
  obtain ⟨ROW, hROW⟩ : ∃ ROW : Array Value, ROW = al.toArray ++ Builtin.zeroCells z0.cells (n + 1 - i) ++ Builtin.zeroCells z0.cells (G - (n + 1)) := ⟨_, rfl⟩
  have hrz : ∀ ty, (Builtin.append_ #[66, 3] ty #[.slice (some ⟨g, 0, none⟩) i n, .int .i64 ((n : Int) + 1 - (i : Int))]).run Try.prog w =
      .ok (.slice (some ⟨w.heap.size, 0, none⟩) (n + 1) G) (w.drew.alloc (.cells ROW 70)) := fun ty => by
    have h := Lib.run_append_grow_zeros w 66 3 ty 70 i0 _ .i64 .i64 Try.underlying66 Try.underlying3 hi0 hz0 (some ⟨g, 0, none⟩) i n al hold (n + 1 - i) (by omega) (by omega) (by omega) (by omega) (by rw [hzb]; omega) (by rw [hzb, hik]; exact growslice_fits (by omega) (by omega))
    rw [hik, ← hG, ← hROW] at h
    rw [hkk]
    exact h
  have hGn : n + 1 ≤ G := by rw [hG]; exact grownCap_ge w _ _ _
  have hG63 : G ≤ maxLen := by rw [hG]; exact grownCap_le_maxLen w (n + 1) n 70 (by unfold maxLen; omega)
  have hRl : ROW.size = G * 3 := by
    rw [hROW]
    simp only [Array.size_append, List.size_toArray, size_zeroCells, hzc, hal]
    omega
  have hRa : ∀ j, j < i * 3 → ROW[j]? = al[j]? := fun j hj => by
    rw [hROW, Array.getElem?_append_left (by simp only [Array.size_append, List.size_toArray]; omega), Array.getElem?_append_left (by simp only [List.size_toArray]; omega)]
    simp
  obtain ⟨W1, hW1⟩ : ∃ W1, W1 = w.drew.alloc (.cells ROW 70) := ⟨_, rfl⟩
  rw [← hW1] at hrz
  have hN : ∀ j, j < (n + 1) * 3 → (W1.cell? ⟨w.heap.size, j, none⟩).isSome = true := fun j hj => by
    rw [hW1, World.cell?_alloc_at (w := w.drew) ROW _ w.heap.size j rfl, Array.getElem?_eq_getElem (by omega)]; rfl
  have hNf : ∀ j, W1.frozen? ⟨w.heap.size, j, none⟩ = false := fun j => by rw [hW1]; exact World.frozen?_alloc_at (w := w.drew) ROW _ w.heap.size j rfl
  have hOb : ∀ j v, w.cell? ⟨g, j, none⟩ = some v → W1.cell? ⟨g, j, none⟩ = some v := fun j v h => by rw [hW1, World.cell?_alloc_past (w := w.drew) _ g j hgw]; exact h
  have hOv : ∀ j v, w.cell? ⟨vb, j, none⟩ = some v → W1.cell? ⟨vb, j, none⟩ = some v := fun j v h => by rw [hW1, World.cell?_alloc_past (w := w.drew) _ vb j hvb]; exact h
  have hcpA : ∀ (W : World), (∀ x, W.cell? x = W1.cell? x) → (∀ x, W.frozen? x = W1.frozen? x) → ∀ ty dc, (Builtin.copy_ #[66, 66] ty #[.slice (some ⟨w.heap.size, i * 3, none⟩) (n + 1 - i) dc, .slice (some ⟨vb, 0, none⟩) 1 1]).run Try.prog W = .ok (goInt (1 : Nat)) (W.setCells w.heap.size (i * 3) vs) := fun W hWc hWf ty dc =>
    run_copyN W _ _ ty 70 w.heap.size (i * 3) (n + 1 - i) dc ⟨vb, 0, none⟩ 1 1 3 1 vs Try.underlying66 spSize (by simp only [Nat.min_def]; split <;> omega) (by rw [hvl])
      (fun j v hj => by rw [Go.WideShapes.add_plain, Nat.zero_add, hWc]; exact hOv _ v (hx j v hj))
      (fun j hj => ⟨by rw [hWc]; exact hN _ (by omega), by rw [hWf]; exact hNf _⟩) h1v
  have hgN : g ≠ w.heap.size := by omega
  have hcpB : ∀ (W : World), (∀ x, W.cell? x = (W1.setCells w.heap.size (i * 3) vs).cell? x) → (∀ x, W.frozen? x = (W1.setCells w.heap.size (i * 3) vs).frozen? x) → ∀ ty dc sc, (Builtin.copy_ #[66, 66] ty #[.slice (some ⟨w.heap.size, (i + 1) * 3, none⟩) (n - i) dc, .slice (some ⟨g, i * 3, none⟩) (n - i) sc]).run Try.prog W = .ok (goInt (n - i : Nat)) (W.setCells w.heap.size ((i + 1) * 3) cs) := fun W hWc hWf ty dc sc =>
    run_copyN W _ _ ty 70 w.heap.size ((i + 1) * 3) (n - i) dc ⟨g, i * 3, none⟩ (n - i) sc 3 (n - i) cs Try.underlying66 spSize (by simp only [Nat.min_def]; split <;> omega) hcl
      (fun j v hj => by
        rw [Go.WideShapes.add_plain, hWc, World.cell?_setCells_out _ _ _ _ _ (fun h _ => absurd h hgN)]
        exact hOb _ v (hcs j v hj))
      (fun j hj => ⟨by rw [hWc]; exact isSome_setCells _ _ _ _ (fun t ht => hN _ (by omega)) _ (hN _ (by omega)), by rw [hWf, World.frozen?_setCells]; exact hNf _⟩) h1c
  subst hW1
  have hE1 : ∀ x, ((w.alloc (.cells ROW 70)).drew).cell? x = (w.drew.alloc (.cells ROW 70)).cell? x := fun x => rfl
  have hE2 : ∀ x, ((w.alloc (.cells ROW 70)).drew).frozen? x = (w.drew.alloc (.cells ROW 70)).frozen? x := fun x => rfl
  have hF1 : ∀ x, (((w.alloc (.cells ROW 70)).drew.setCells w.heap.size (i * 3) vs).drew).cell? x = ((w.drew.alloc (.cells ROW 70)).setCells w.heap.size (i * 3) vs).cell? x := fun x => rfl
  have hF2 : ∀ x, (((w.alloc (.cells ROW 70)).drew.setCells w.heap.size (i * 3) vs).drew).frozen? x = ((w.drew.alloc (.cells ROW 70)).setCells w.heap.size (i * 3) vs).frozen? x := fun x => rfl
  have HG := Lib.hid hGn
  have HG2 := Lib.hid hG63
  unfold maxLen at hG63
  have hGi : ¬ (G = i) := by omega
  have hGim : ¬ (G = i + 1) := by omega
  have hni : ¬ (n = i) := by omega
  have hz2 : ¬ ((i : Int) = (n : Int)) := by omega
  have hz4 : (n : Int) < (n : Int) + 1 := by omega
  have hw1 : IntKind.i64.wrap ((i : Int) + 1) = (i : Int) + 1 := by rw [IntKind.wrap_i64]; omega
  have hb1 : (0 : Int) ≤ (i : Int) + 1 := by omega
  have hin : (i : Int) ≤ (n : Int) := by omega
  have hb2 : (i : Int) ≤ (n : Int) + 1 := by omega
  have hb3 : (i : Int) + 1 ≤ (n : Int) + 1 := by omega
  have htn : ((i : Int) + 1).toNat = i + 1 := by omega
  have HR := Lib.hid hRl
  have HRa := Lib.hid hRa
  clear hkk hik hold hROW hG hRl hN hNf hOb hOv has hcs hx hRa hal hcl hvl
  go_enter Try.func82, Try.ntmps82
  go_wp2_with (first
    | (at_builtin; refine Lib.wpList_append_run _ rfl _ _ _ _ rfl _ _ rfl rfl _ _ (hrz _) ?_)
    | (at_builtin; refine wpList_copy_runI _ rfl _ _ 66 66 rfl _ _ rfl rfl (hcpA _ hE1 hE2 _ _) ?_)
    | (at_builtin; refine wpList_copy_runI _ rfl _ _ 66 66 rfl _ _ rfl rfl (hcpB _ (fun _ => rfl) (fun _ => rfl) _ _ _) ?_))
  go_region_law (refine step_copy_runI rfl _ _ 66 66 rfl (.slice (some ⟨w.heap.size, (i + 1) * 3, none⟩) (n - i) (G - (i + 1))) (.slice (some ⟨g, i * 3, none⟩) (n - i) (n - i)) (by simp [Act.eval, Act.put]) (by simp [Act.eval, Act.put]) (hcpB _ hF1 hF2 _ _ _) ?_)
  go_wp2
  go_ret
  exact ⟨G, ROW, 1, 1, rfl, HG.out, HG2.out, HR.out, HRa.out, rfl⟩

end Go.Proofs.Ytoiaamijjcjjiaa.P7
