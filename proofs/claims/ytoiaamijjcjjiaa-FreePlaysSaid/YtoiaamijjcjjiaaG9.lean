/-
  The program's list of free ids: Release. (For any seat that has free.List.)
-/
import Derived.Test.YtoiaamijjcjjiaaG8
namespace Go.Proofs.Ytoiaamijjcjjiaa.P7
open Go Go.RowKit Go.Lib Go.Proofs.Ytoiaamijjcjjiaa.PK

def mixR (t : Int) (S : List Sp) (k : Nat) : List Sp := relS t (S.take k) ++ S.drop k
theorem mixR_zero (t : Int) (S : List Sp) : mixR t S 0 = S := rfl
theorem mixR_all (t : Int) (S : List Sp) : mixR t S S.length = relS t S := by unfold mixR; rw [List.take_length, List.drop_length, List.append_nil]
theorem mixR_len (t : Int) (S : List Sp) (k : Nat) : (mixR t S k).length = S.length := by unfold mixR relS; rw [List.length_append, List.length_map, ← List.length_append, List.take_append_drop]
theorem mixR_at {t : Int} {S : List Sp} {k : Nat} {s : Sp} (h : S[k]? = some s) : (mixR t S k)[k]? = some s := by
  have hk := (List.getElem?_eq_some_iff.1 h).1
  have hl : (relS t (S.take k)).length = k := by unfold relS; rw [List.length_map, List.length_take]; omega
  unfold mixR
  rw [List.getElem?_append_right (by omega), hl, Nat.sub_self, List.getElem?_drop, Nat.add_zero]
  exact h
theorem mixR_set {t : Int} {S : List Sp} {k : Nat} {s : Sp} (h : S[k]? = some s) : (mixR t S k).set k (relOne t s) = mixR t S (k + 1) := by
  obtain ⟨hk, he⟩ := List.getElem?_eq_some_iff.1 h
  have hl : (relS t (S.take k)).length = k := by unfold relS; rw [List.length_map, List.length_take]; omega
  unfold mixR
  rw [List.set_append_right _ _ (by omega), hl, Nat.sub_self, List.drop_eq_getElem_cons hk, he, List.set_cons_zero, List.take_add_one, h]
  unfold relS
  rw [List.map_append, List.append_assoc]
  rfl
theorem mixR_same {t : Int} {S : List Sp} {k : Nat} {s : Sp} (h : S[k]? = some s) (e : relOne t s = s) : mixR t S (k + 1) = mixR t S k := by
  rw [← mixR_set h, e]
  obtain ⟨hk, he⟩ := List.getElem?_eq_some_iff.1 (mixR_at (t := t) h)
  apply List.ext_getElem?
  intro j
  by_cases hj : k = j
  · subst hj
    rw [List.getElem?_set_self hk]
    exact (mixR_at h).symm
  · rw [List.getElem?_set_ne hj]
theorem relC_next {t : Int} {S : List Sp} {k : Nat} {s : Sp} (h : S[k]? = some s) : relC t (S.take (k + 1)) = relC t (S.take k) + if !s.fr && decide (s.tx < t) then 1 else 0 := by
  unfold relC
  rw [List.take_add_one, h, List.filter_append, List.length_append]
  congr 1
  cases e : (!s.fr && decide (s.tx < t)) <;> simp [e]
theorem spFlat_lens : ∀ S : List Sp, (S.map spCells).flatten = spFlat S := fun S => by unfold spFlat; rw [List.flatMap_def]
theorem spFlat_set {S : List Sp} {k : Nat} (hk : k < S.length) (s : Sp) : setL (spFlat S) (k * 3) (spCells s) = spFlat (S.set k s) := by
  rw [← spFlat_lens, ← spFlat_lens, List.map_set]
  exact (flat_put (n := 3) (l := S.map spCells) (fun x hx => by obtain ⟨y, _, rfl⟩ := List.mem_map.1 hx; rfl) (by rw [List.length_map]; exact hk) rfl).symm
section
variable {w0 w w1 w2 w' : World} {R : List Row} {r : Nat} {P : PM}
theorem PAt.setAt (h : PAt w0 R r P w) {k g : Nat} (hk : k < P.S.length) (hg : P.sv.ownBlock = some g) (s : Sp) : PAt w0 R r { P with S := P.S.set k s } (w.setCells g (k * 3) (spCells s)) := by
  have hrows : Rws w0 ([bl r P.cells 68] ++ sRow P.sv P.S :: R) w := h.rows
  have h2 := hrows.setCells (g := g) (spCells s) (k * 3) hg (by show k * 3 + 3 ≤ P.S.length * 3; omega)
  refine ⟨?_, by rw [List.length_set]; exact h.few, h.two⟩
  have e : (⟨(sRow P.sv P.S).v, (sRow P.sv P.S).e, (sRow P.sv P.S).size, (sRow P.sv P.S).n, setL (sRow P.sv P.S).xs (k * 3) (spCells s)⟩ : Row) = sRow P.sv (P.S.set k s) := by
    unfold sRow
    rw [List.length_set, spFlat_set hk]
  rw [e] at h2
  exact h2
set_option maxRecDepth 100000 in
set_option maxHeartbeats 2000000 in
theorem PAt.rel_ (h : PAt w0 R r P w) (t : Int) :
    Calls Try.prog 17 #[.pointer (some ⟨r, 0, none⟩), .int .i64 t] w fun e w' => e = .returned (.int .i64 (relC t P.S : Nat)) ∧ PAt w0 R r { P with S := relS t P.S } w' := by
  obtain ⟨a, c, hsv, hga, hNc, hcm, _, _⟩ := h.shape
  have hx := (h.shape).choose_spec
  obtain ⟨N, hN⟩ : ∃ N, N = P.S.length := ⟨_, rfl⟩
  have HS : Hid (∀ W S', S'.length = P.S.length → PAt w0 R r { P with S := S' } W → W.cell? ⟨r, 1, none⟩ = some (.slice a N c) ∧ ∀ (k : Nat) (s : Sp), S'[k]? = some s → ∃ g, P.sv.ownBlock = some g ∧ a = some ⟨g, 0, none⟩ ∧ g < W.heap.size ∧ (W.cell? ⟨g, k * 3, none⟩ = some (.int .i64 s.id) ∧ W.frozen? ⟨g, k * 3, none⟩ = false) ∧ (W.cell? ⟨g, k * 3 + 1, none⟩ = some (.bool s.fr) ∧ W.frozen? ⟨g, k * 3 + 1, none⟩ = false) ∧ (W.cell? ⟨g, k * 3 + 2, none⟩ = some (.int .i64 s.tx) ∧ W.frozen? ⟨g, k * 3 + 2, none⟩ = false)) := fun W S' hl hW => by
    refine ⟨(hW.cell 1).trans (by rw [hN, ← hsv]; rfl), fun k s hk => ?_⟩
    have hk2 := (List.getElem?_eq_some_iff.1 hk).1
    rcases hga with q | ⟨g, rfl⟩
    · omega
    · have hgb : P.sv.ownBlock = some g := by rw [hsv]; rfl
      obtain ⟨h1, h2, h3⟩ := spFlat_at hk
      have hr := hW.srow
      have hlt := (hW.rows.lt (x := sRow P.sv S') (by simp [PM.rows]) hgb).2
      exact ⟨g, hgb, rfl, hlt, ⟨hr.cell hgb h1, hr.free hgb _⟩, ⟨hr.cell hgb h2, hr.free hgb _⟩, ⟨hr.cell hgb h3, hr.free hgb _⟩⟩
  have HR := Lib.hid (fun W S' (hW : PAt w0 R r { P with S := S' } W) => hW.lo.2)
  have H := Lib.hid h
  have HN := Lib.hid hN
  have x1 := (HS.out w P.S rfl h).1
  have hlen : N ≤ 10000 := by rw [hN]; exact h.few
  unfold maxLen at hcm
  rw [← hN] at hNc
  clear hx h hsv hga hN
  go_enter Try.func17, Try.ntmps17
  go_wp2
  go_loopw [5, 15] (fun vn vi wr => ∃ k : Nat, k ≤ N ∧ vi = .int .i64 k ∧ vn = .int .i64 (relC t (P.S.take k) : Nat) ∧ Hid (PAt w0 R r { P with S := mixR t P.S k } wr)) (fun _ vi _ => N - (RowKit.intOf vi).toNat)
  case atStart => exact ⟨0, Nat.zero_le _, rfl, rfl, by rw [mixR_zero]; exact H⟩
  case round =>
    clear H
    obtain ⟨k, hk, rfl, rfl, HP⟩ := hrel
    by_cases hlt : k < N
    · obtain ⟨s, hs⟩ : ∃ s, P.S[k]? = some s := ⟨_, List.getElem?_eq_getElem (by have := HN.out; omega)⟩
      obtain ⟨x2, hC⟩ := HS.out wr _ (mixR_len t P.S k) HP.out
      obtain ⟨g, hgb, rfl, hgl, ⟨c1, f1⟩, ⟨c2, f2⟩, ⟨c3, f3⟩⟩ := hC k s (mixR_at hs)
      have hrl := HR.out wr _ HP.out
      have kk : (k : Int) < (N : Int) := by omega
      have kk0 : (0 : Int) ≤ (k : Int) := by omega
      have HNx := Lib.hid (relC_next (t := t) hs)
      have hcl : relC t (P.S.take k) ≤ 10000 := by
        unfold relC
        have h1 := List.length_filter_le (fun s => !s.fr && decide (s.tx < t)) (P.S.take k)
        rw [List.length_take] at h1
        omega
      have HP1 := Lib.hid (fun o => HP.out.over (below_new wr o))
      have HSet := Lib.hid (fun W (hW : PAt w0 R r { P with S := mixR t P.S k } W) (s' : Sp) => hW.setAt (k := k) (g := g) (by show k < (mixR t P.S k).length; rw [mixR_len]; have := HN.out; omega) hgb s')
      have HHs := Lib.hid hs
      obtain ⟨m, hm⟩ : ∃ m, m = relC t (P.S.take k) := ⟨_, rfl⟩
      rw [← hm] at hcl HNx ⊢
      clear hs hC hgb hm
      cases hf : s.fr with
      | true =>
        rw [hf] at c2
        have HE : Hid (relOne t s = s) := by show _ = _; unfold relOne; rw [hf]; rfl
        have HC0 : Hid (relC t (P.S.take (k + 1)) = m) := by show _ = _; rw [HNx.out, hf]; rfl
        go_wp2
        go_roundw
        case rel => exact ⟨k + 1, by omega, by go_num, by rw [HC0.out], by rw [mixR_same HHs.out HE.out]; exact HP1.out _⟩
        case measure => simp [RowKit.intOf]; omega
      | false =>
        rw [hf] at c2
        by_cases ht : s.tx < t
        · have d1 : decide (s.tx < t) = true := decide_eq_true ht
          have HC1 : Hid (relC t (P.S.take (k + 1)) = m + 1) := by show _ = _; rw [HNx.out, hf, d1]; rfl
          have HE : Hid (relOne t s = ⟨s.id, true, 0⟩) := by show _ = _; unfold relOne; rw [hf, d1]; rfl
          have HM := Lib.hid (mixR_set (t := t) HHs.out)
          go_wp2_with fail
          go_region
          go_wp2
          go_roundw
          case rel => exact ⟨k + 1, by omega, by go_num, by rw [HC1.out]; go_num, by rw [← HM.out, HE.out]; exact ((HSet.out _ HP.out ⟨s.id, true, 0⟩).over (below_new _ _)).drewN 1⟩
          case measure => simp [RowKit.intOf]; omega
        · have d1 : decide (s.tx < t) = false := decide_eq_false ht
          have HE : Hid (relOne t s = s) := by show _ = _; unfold relOne; rw [hf, d1]; rfl
          have HC0 : Hid (relC t (P.S.take (k + 1)) = m) := by show _ = _; rw [HNx.out, hf, d1]; rfl
          clear ht
          go_wp2
          go_roundw
          case rel => exact ⟨k + 1, by omega, by go_num, by rw [HC0.out], by rw [mixR_same HHs.out HE.out]; exact HP1.out _⟩
          case measure => simp [RowKit.intOf]; omega
    · obtain rfl : k = N := by omega
      have HF : Hid (PAt w0 R r { P with S := relS t P.S } wr) := by
        have h9 := HP.out
        rw [HN.out, mixR_all] at h9
        exact h9
      have HC1 : Hid (relC t (P.S.take k) = relC t P.S) := by show _ = _; rw [HN.out, List.take_length]
      rw [HC1.out]
      clear HP hlt
      go_wp2
      go_ret
      exact ⟨rfl, HF.out⟩
theorem rel_nil (w : World) (t : Int) : Calls Try.prog 17 #[.pointer none, .int .i64 t] w fun e w' => e = .returned (.int .i64 0) ∧ w = w' := by
  go_enter Try.func17, Try.ntmps17
  go_wp2
  go_ret
  exact ⟨rfl, rfl⟩
end

end Go.Proofs.Ytoiaamijjcjjiaa.P7
