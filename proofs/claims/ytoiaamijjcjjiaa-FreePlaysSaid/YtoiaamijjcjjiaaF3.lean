/-
  The reference's list of free ids: All, Pending. (For any seat that has rootstockref1.Free.)
-/
import Derived.Test.YtoiaamijjcjjiaaF2
namespace Go.Proofs.Ytoiaamijjcjjiaa.P7
open Go Go.RowKit Go.Lib Go.Proofs.Ytoiaamijjcjjiaa.PK

section
variable {w0 w w' : World} {R : List Row} {r : Nat} {F : FM}
set_option maxRecDepth 100000 in
set_option maxHeartbeats 2000000 in
theorem FAt.all_ (h : FAt w0 R r F w) : Calls Try.prog 26 #[.pointer (some ⟨r, 0, none⟩)] w fun e w' => ∃ u, e = .returned u ∧ (iRow u F.all).At w' w.heap.size ∧ Below w.heap.size w w' := by
  obtain ⟨i0, hi0, hz0, hz1, hz2⟩ := info_parts infoI7
  obtain ⟨la, lc, hlv, hln⟩ := h.lshape
  obtain ⟨wa, wc, hwv, hwn, hwc⟩ := h.wshape
  have hil := iRow_il h.lrow (by have := h.few; omega)
  have hnews : ∀ A, la = some A → ∀ (j : Nat) (u : Value), (F.L.map (Value.int .i64))[j]? = some u → w.cell? (A.add j) = some u := fun A hA j u hu => by
    rw [hlv] at hil
    have h9 := hil.elems
    rw [← il_length F.L] at h9
    exact h9.flat hA (by rw [il_flat]; exact hu)
  have few := h.few
  have few2 := h.few2
  have HC := Lib.hid (show ∀ W, FAt w0 R r F W → W.cell? ⟨r, 1, none⟩ = some (.slice la F.L.length lc) ∧ W.cell? ⟨r, 2, none⟩ = some (.slice wa F.W.length wc) from fun W hW => ⟨(hW.cell 1).trans (by rw [← hlv]; rfl), (hW.cell 2).trans (by rw [← hwv]; rfl)⟩)
  have HW := Lib.hid hwc
  have H := Lib.hid h
  obtain ⟨c1, c2⟩ := HC.out w h
  clear h hwc hil
  go_enter Try.func26, Try.ntmps26
  go_wp2_with (at_builtin; refine wpList_app rfl _ _ 22 rfl w.heap.size 3 i0 (.int .i64 0) 1 8 Try.underlying22 hi0 hz0 hz1 hz2 rfl (by decide) (.slice none 0 0) 0 [] rfl (World.ownsRow_nil _ _ _ _) la F.L.length lc (F.L.map (Value.int .i64)) rfl (by simp) hnews hln (ints_one _) (by unfold maxLen; omega) (by omega) (Nat.le_refl _) ?_; intro p q w2 hown hgrow hat; have HB := Lib.hid (show Below w.heap.size w w2 from (Below.refl _ w).grown hgrow (Nat.le_refl _) (fun k hk => by cases hk)); have HO := Lib.hid (show (iRow (.slice p F.L.length q) F.L).At w2 w.heap.size from iRow_owns.2 (by rw [Nat.zero_add, List.nil_append] at hown; exact hown)); clear hown hgrow hat)
  clear c1 c2 hnews hln
  go_loopw [3, 4] (fun vo vi wr => ∃ (k : Nat) (o : List Int), k ≤ F.W.length ∧ vi = .int .i64 k ∧ Hid (o = (F.W.take k).foldl (fun o p => putS o p.2) F.L) ∧ Hid ((iRow vo o).At wr w.heap.size) ∧ Hid (Below w.heap.size w wr)) (fun _ vi _ => F.W.length - (RowKit.intOf vi).toNat)
  case atStart => exact ⟨0, F.L, Nat.zero_le _, rfl, rfl, by first | exact HO | (rw [Nat.zero_add]; exact HO), HB⟩
  case round =>
    clear HO HB
    obtain ⟨k, o, hk, rfl, HE, HO, HB⟩ := hrel
    obtain ⟨-, c2⟩ := HC.out wr (H.out.over HB.out)
    by_cases hlt : k < F.W.length
    · obtain ⟨x, hx⟩ : ∃ x, F.W[k]? = some x := ⟨_, List.getElem?_eq_getElem hlt⟩
      obtain ⟨g, rfl, d0, d1⟩ := HW.out wr (H.out.over HB.out) k x hx
      have HN := Lib.hid (fold_next (fun o p => putS o p.2) hx F.L)
      have hol : o.length ≤ 20000 := by
        have h1 := fold_len (fun o p => putS o p.2) (fun o p => put_len o p.2) (F.W.take k) F.L
        rw [← HE.out, List.length_take] at h1
        omega
      have HP := Lib.hid (put_row wr w.heap.size u3 o x.2 HO.out HB.out.size (by omega))
      have b0 : (0 : Int) ≤ (k : Int) := by omega
      have b1 : (k : Int) < (F.W.length : Int) := by omega
      clear hx HO
      go_wp2_with (go_at_call 37; (with_reducible refine HP.out.mono ?_); rintro e w3 ⟨u, rfl, ho, hb⟩; have HO := Lib.hid ho; have HB2 := Lib.hid (thenBelow HB.out hb); clear ho hb)
      go_roundw
      case rel => exact ⟨k + 1, putS o x.2, by omega, by go_num, by show _ = _; rw [HN.out, HE.out], HO, HB2⟩
      case measure => simp [RowKit.intOf]; omega
    · obtain rfl : k = F.W.length := by omega
      have HF : Hid (o = F.all) := by show _ = _; rw [HE.out, List.take_length]; rfl
      clear HE
      go_wp2
      go_ret
      exact ⟨_, rfl, by rw [← HF.out]; exact HO.out, HB.out⟩
set_option maxRecDepth 100000 in
set_option maxHeartbeats 2000000 in
theorem FAt.pend_ (h : FAt w0 R r F w) (tx : Int) : Calls Try.prog 25 #[.pointer (some ⟨r, 0, none⟩), .int .i64 tx] w fun e w' => ∃ u, e = .returned u ∧ (iRow u (F.pend tx)).At w' w.heap.size ∧ Below w.heap.size w w' := by
  obtain ⟨wa, wc, hwv, hwn, hwc⟩ := h.wshape
  have few := h.few
  have few2 := h.few2
  have HC := Lib.hid (show ∀ W, FAt w0 R r F W → W.cell? ⟨r, 2, none⟩ = some (.slice wa F.W.length wc) from fun W hW => (hW.cell 2).trans (by rw [← hwv]; rfl))
  have HW := Lib.hid hwc
  have H := Lib.hid h
  clear h hwc
  go_enter Try.func25, Try.ntmps25
  go_wp2
  go_loopw [5, 6] (fun vo vi wr => ∃ (k : Nat) (o : List Int), k ≤ F.W.length ∧ vi = .int .i64 k ∧ Hid (o = (F.W.take k).foldl (fun o p => if p.1 = tx then putS o p.2 else o) []) ∧ Hid ((iRow vo o).At wr w.heap.size) ∧ Hid (Below w.heap.size w wr)) (fun _ vi _ => F.W.length - (RowKit.intOf vi).toNat)
  case atStart => exact ⟨0, [], Nat.zero_le _, rfl, rfl, World.ownsRow_nil _ _ _ _, Below.refl _ _⟩
  case round =>
    obtain ⟨k, o, hk, rfl, HE, HO, HB⟩ := hrel
    have c2 := HC.out wr (H.out.over HB.out)
    by_cases hlt : k < F.W.length
    · obtain ⟨x, hx⟩ : ∃ x, F.W[k]? = some x := ⟨_, List.getElem?_eq_getElem hlt⟩
      obtain ⟨g, rfl, d0, d1⟩ := HW.out wr (H.out.over HB.out) k x hx
      have HN := Lib.hid (fold_next (fun o p => if p.1 = tx then putS o p.2 else o) hx [])
      have hol : o.length ≤ 20000 := by
        have h1 := fold_len (fun o p => if p.1 = tx then putS o p.2 else o) (fun o p => by
          show (if p.1 = tx then putS o p.2 else o).length ≤ _
          split
          · exact put_len o p.2
          · omega) (F.W.take k) []
        rw [← HE.out, List.length_take] at h1
        simp at h1
        omega
      have b0 : (0 : Int) ≤ (k : Int) := by omega
      have b1 : (k : Int) < (F.W.length : Int) := by omega
      clear hx
      by_cases e : x.1 = tx
      · have e1 : (x.1 == tx) = true := beq_iff_eq.2 e
        have HP := Lib.hid (put_row wr w.heap.size u5 o x.2 HO.out HB.out.size (by omega))
        have HN2 : Hid ((F.W.take (k + 1)).foldl (fun o p => if p.1 = tx then putS o p.2 else o) [] = putS o x.2) := by show _ = _; rw [HN.out, ← HE.out, if_pos e]
        clear e HO HN
        go_wp2_with (go_at_call 37; (with_reducible refine HP.out.mono ?_); rintro e w3 ⟨u, rfl, ho, hb⟩; have HO := Lib.hid ho; have HB2 := Lib.hid (thenBelow HB.out hb); clear ho hb)
        go_roundw
        case rel => exact ⟨k + 1, putS o x.2, by omega, by go_num, HN2.out.symm, HO, HB2⟩
        case measure => simp [RowKit.intOf]; omega
      · have e1 : (x.1 == tx) = false := beq_eq_false_iff_ne.2 e
        have HN2 : Hid ((F.W.take (k + 1)).foldl (fun o p => if p.1 = tx then putS o p.2 else o) [] = o) := by show _ = _; rw [HN.out, ← HE.out, if_neg e]
        clear e HN
        go_wp2
        go_roundw
        case rel => exact ⟨k + 1, o, by omega, by go_num, HN2.out.symm, HO, HB⟩
        case measure => simp [RowKit.intOf]; omega
    · obtain rfl : k = F.W.length := by omega
      have HF : Hid (o = F.pend tx) := by show _ = _; rw [HE.out, List.take_length]; rfl
      clear HE
      go_wp2
      go_ret
      exact ⟨_, rfl, by rw [← HF.out]; exact HO.out, HB.out⟩
end

end Go.Proofs.Ytoiaamijjcjjiaa.P7
