/-
  The program's list of free ids: Give. (For any seat that has free.List.)
-/
import Derived.Test.YtoiaamijjcjjiaaG7
namespace Go.Proofs.Ytoiaamijjcjjiaa.P7
open Go Go.RowKit Go.Lib Go.Proofs.Ytoiaamijjcjjiaa.PK

def giveS (p tx : Int) (S : List Sp) (id : Int) : List Sp := if 2 ≤ id ∧ id < p ∧ id ∉ idsS S then addS S tx id else S
def gives (p tx : Int) (S : List Sp) (ids : List Int) : List Sp := ids.foldl (giveS p tx) S
theorem giveS_rise {p tx : Int} {S : List Sp} (id : Int) (h : Rising (idsS S)) : Rising (idsS (giveS p tx S id)) := by
  unfold giveS
  split
  · rename_i q
    rw [add_ids q.2.2]
    exact put_rising h
  · exact h
theorem giveS_len (p tx : Int) (S : List Sp) (id : Int) : S.length ≤ (giveS p tx S id).length ∧ (giveS p tx S id).length ≤ S.length + 1 := by
  unfold giveS
  split
  · rw [add_len]; omega
  · omega
theorem gives_len (p tx : Int) : ∀ (ids : List Int) (S : List Sp), S.length ≤ (gives p tx S ids).length ∧ (gives p tx S ids).length ≤ S.length + ids.length
  | [], S => ⟨Nat.le_refl _, Nat.le_refl _⟩
  | x :: ids, S => by
    have h1 := giveS_len p tx S x
    have h2 := gives_len p tx ids (giveS p tx S x)
    unfold gives at h2 ⊢
    rw [List.foldl_cons, List.length_cons]
    omega
theorem gives_rise {p tx : Int} : ∀ (ids : List Int) {S : List Sp}, Rising (idsS S) → Rising (idsS (gives p tx S ids))
  | [], S, h => h
  | x :: ids, S, h => by
    have h2 := gives_rise (p := p) (tx := tx) ids (giveS_rise (p := p) (tx := tx) x h)
    unfold gives at h2 ⊢
    exact h2
theorem gives_next (p tx : Int) (S : List Sp) {ids : List Int} {k : Nat} {x : Int} (hx : ids[k]? = some x) : gives p tx S (ids.take (k + 1)) = giveS p tx (gives p tx S (ids.take k)) x := by
  unfold gives
  rw [List.take_add_one, hx, List.foldl_append]
  rfl
/-- beside the reference's -/
theorem Tie.give1 {S : List Sp} {F : FM} (h : Tie S F) (tx x : Int) : Tie (giveS F.pages tx S x) { F with W := F.give1 tx F.W x } := by
  have e : F.ok F.W x ↔ (2 ≤ x ∧ x < F.pages ∧ x ∉ idsS S) := by
    unfold FM.ok
    rw [show ({ F with W := F.W } : FM).all = F.all from rfl, tie_all h]
  unfold giveS FM.give1
  by_cases q : 2 ≤ x ∧ x < F.pages ∧ x ∉ idsS S
  · rw [if_pos q, if_pos (e.2 q)]
    exact h.add q.2.2
  · rw [if_neg q, if_neg (fun k => q (e.1 k))]
    exact h
theorem Tie.gives {F : FM} (tx : Int) : ∀ (ids : List Int) (S : List Sp) (W : List (Int × Int)), Tie S { F with W := W } → Tie (gives F.pages tx S ids) { F with W := ids.foldl (F.give1 tx) W }
  | [], S, W, h => h
  | x :: ids, S, W, h => by
    have h1 := h.give1 tx x
    exact Tie.gives tx ids (giveS F.pages tx S x) _ h1
section
variable {w0 w w1 w2 w' : World} {R : List Row} {r : Nat} {P : PM}
set_option maxRecDepth 100000 in
set_option maxHeartbeats 2000000 in
theorem PAt.give1_ (h : PAt w0 R r P w) (tx id : Int) (hl : P.S.length ≤ 9999) (hr : Rising (idsS P.S)) :
    Calls Try.prog 36 #[.pointer (some ⟨r, 0, none⟩), .int .i64 tx, .int .i64 id] w fun e w' => ∃ sv', e = .returned (.bool (decide (2 ≤ id ∧ id < P.pages ∧ id ∉ idsS P.S))) ∧ PAt w0 R r { P with sv := sv', S := giveS P.pages tx P.S id } w' := by
  have HP := Lib.hid h.pages_
  by_cases h1 : 2 ≤ id
  · have d1 : decide (id < 2) = false := decide_eq_false (by omega)
    by_cases h2 : id < P.pages
    · have d2 : decide (P.pages ≤ id) = false := decide_eq_false (by omega)
      obtain ⟨a, c, hsv, hga, hNc, hcm, hx, hC⟩ := h.shape
      have x1 := (hx w h).2
      have HSe : Hid (Calls Try.prog 79 #[.slice a P.S.length c, .int .i64 id, .func (.func 80) #[] #[]] w fun e w' => e = .returned (.tuple #[.int .i64 (lowN (idsS P.S) id : Nat), .bool (decide (id ∈ idsS P.S))]) ∧ Below w.heap.size w w') := by
        have := search_any w w0.heap.size P.sv P.S id h.srow (by omega) hr
        rw [hsv] at this
        exact this
      by_cases hin : id ∈ idsS P.S
      · have HE : Hid (decide (2 ≤ id ∧ id < P.pages ∧ id ∉ idsS P.S) = false) := decide_eq_false fun q => q.2.2 hin
        have HG : Hid (giveS P.pages tx P.S id = P.S) := by show _ = _; unfold giveS; rw [if_neg (fun q => q.2.2 hin)]
        rw [decide_eq_true hin] at HSe
        have HO := Lib.hid (fun W (hW : Below w.heap.size w W) => h.over hW)
        clear h hx hC hsv hga hin hr h2
        go_enter Try.func36, Try.ntmps36
        go_wp2_with (first
          | (go_at_call 27; (with_reducible refine HP.out.mono ?_); rintro e w2 ⟨rfl, rfl⟩)
          | (go_at_call 79; (with_reducible refine HSe.out.mono ?_); rintro e w2 ⟨rfl, hb⟩; have HB := Lib.hid hb; clear hb))
        go_ret
        exact ⟨P.sv, by rw [HE.out]; rfl, by rw [HG.out]; exact HO.out _ HB.out⟩
      · have HE : Hid (decide (2 ≤ id ∧ id < P.pages ∧ id ∉ idsS P.S) = true) := decide_eq_true ⟨h1, h2, hin⟩
        have HG : Hid (giveS P.pages tx P.S id = addS P.S tx id) := by show _ = _; unfold giveS; rw [if_pos ⟨h1, h2, hin⟩]
        rw [decide_eq_false hin] at HSe
        have HI : Hid (∀ W, Below w.heap.size w W → Calls Try.prog 82 #[.slice a P.S.length c, .int .i64 (lowN (idsS P.S) id : Nat), .slice (some ⟨W.heap.size, 0, none⟩) 1 1] (W.alloc (.cells #[.int .i64 id, .bool false, .int .i64 tx] 70)) fun e w' => ∃ a' n' c', e = .returned (.slice a' n' c') ∧ w'.cell? ⟨r, 1, none⟩ = some (.slice a P.S.length c) ∧ w'.frozen? ⟨r, 1, none⟩ = false ∧ PAt w0 R r { P with sv := .slice a' n' c', S := addS P.S tx id } (w'.setCell ⟨r, 1, none⟩ (.slice a' n' c'))) := fun W hW => by
          have hWp := (h.over hW).over (below_new W (.cells #[.int .i64 id, .bool false, .int .i64 tx] 70))
          have hlo := hWp.rows.below.size
          have hd := ins_any (W.alloc (.cells #[.int .i64 id, .bool false, .int .i64 tx] 70)) w0.heap.size W.heap.size (lowN (idsS P.S) id) P.sv P.S ⟨id, false, tx⟩ hWp.srow hlo (by have := low_le (idsS P.S) id; rwa [ids_len] at this) (by omega) (new_at W _ _) (fun q => by
            have := ((h.over hW).rows.lt (x := sRow P.sv P.S) (by simp [PM.rows]) (g := W.heap.size) q).2
            omega)
          rw [hsv] at hd
          refine hd.mono ?_
          rintro e w' ⟨v', rfl, e1, e2, e3⟩
          obtain ⟨a', n', c', rfl⟩ := owns_shape e1
          obtain ⟨f1, f2, f3⟩ := hWp.setS (by rw [hsv]; exact e2) e1 (by rw [hsv]; exact e3) (by have := add_len P.S tx id; unfold addS at this; omega)
          exact ⟨a', n', c', rfl, by rw [f1, hsv], f2, f3⟩
        have HX := Lib.hid (fun W (hW : Below w.heap.size w W) => (hx W (h.over hW)).2)
        obtain ⟨A, hA⟩ : ∃ A, A = lowN (idsS P.S) id := ⟨_, rfl⟩
        rw [← hA] at HI HSe
        clear h hx hC hsv hga hin hr h2 hA
        go_enter Try.func36, Try.ntmps36
        go_wp2_with (first
          | (go_at_call 27; (with_reducible refine HP.out.mono ?_); rintro e w2 ⟨rfl, rfl⟩)
          | (go_at_call 79; (with_reducible refine HSe.out.mono ?_); rintro e w2 ⟨rfl, hb⟩; have HB := Lib.hid hb; have x2 := HX.out w2 hb; clear hb)
          | (go_at_call 82; (with_reducible refine (HI.out _ HB.out).mono ?_); rintro e w3 ⟨a', n', c', rfl, y1, y2, y3⟩; have HY := Lib.hid y3; clear y3))
        go_ret
        exact ⟨_, by rw [HE.out]; rfl, by rw [HG.out]; exact HY.out⟩
    · have d2 : decide (P.pages ≤ id) = true := decide_eq_true (by omega)
      have HE : Hid (decide (2 ≤ id ∧ id < P.pages ∧ id ∉ idsS P.S) = false) := decide_eq_false fun q => h2 q.2.1
      have HG : Hid (giveS P.pages tx P.S id = P.S) := by show _ = _; unfold giveS; rw [if_neg (fun q => h2 q.2.1)]
      have HO := Lib.hid h
      clear h hr h2
      go_enter Try.func36, Try.ntmps36
      go_wp2_with (go_at_call 27; (with_reducible refine HP.out.mono ?_); rintro e w2 ⟨rfl, rfl⟩)
      go_ret
      exact ⟨P.sv, by rw [HE.out]; rfl, by rw [HG.out]; exact HO.out⟩
  · have d1 : decide (id < 2) = true := decide_eq_true (by omega)
    have HE : Hid (decide (2 ≤ id ∧ id < P.pages ∧ id ∉ idsS P.S) = false) := decide_eq_false fun q => h1 q.1
    have HG : Hid (giveS P.pages tx P.S id = P.S) := by show _ = _; unfold giveS; rw [if_neg (fun q => h1 q.1)]
    have HO := Lib.hid h
    clear h hr h1
    go_enter Try.func36, Try.ntmps36
    go_wp2
    go_ret
    exact ⟨P.sv, by rw [HE.out]; rfl, by rw [HG.out]; exact HO.out⟩
set_option maxRecDepth 100000 in
set_option maxHeartbeats 2000000 in
theorem PAt.give_ (h : PAt w0 R r P w) (tx : Int) (v : Value) (ids : List Int) (HI : ∀ P' W, PAt w0 R r P' W → IL W v ids) (hr : Rising (idsS P.S)) (hl : P.S.length + ids.length ≤ 9999) :
    Calls Try.prog 15 #[.pointer (some ⟨r, 0, none⟩), .int .i64 tx, v] w fun e w' => ∃ sv', e = .returned (.int .i64 ((gives P.pages tx P.S ids).length - P.S.length : Int)) ∧ PAt w0 R r { P with sv := sv', S := gives P.pages tx P.S ids } w' := by
  obtain ⟨ia, ic, rfl, _, hil, _⟩ := HI P w h
  have HI2 := Lib.hid (show ∀ P' W, PAt w0 R r P' W → ∀ k x, ids[k]? = some x → ∃ b off, ia = some ⟨b, off, none⟩ ∧ W.cell? ⟨b, off + k, none⟩ = some (.int .i64 x) from fun P' W hW k x hx => by
    obtain ⟨a, c, e, _, _, hc⟩ := HI P' W hW
    obtain ⟨b, off, e2, _, hcc⟩ := hc (by have := (List.getElem?_eq_some_iff.1 hx).1; omega)
    have e3 : ia = a := by injection e
    exact ⟨b, off, e3.trans e2, hcc k x hx⟩)
  have H := Lib.hid h
  have HR := Lib.hid hr
  obtain ⟨m, hm⟩ : ∃ m, m = ids.length := ⟨_, rfl⟩
  have HM := Lib.hid hm
  rw [← hm] at hl hil ⊢
  clear HI h hr hm
  go_enter Try.func15, Try.ntmps15
  go_wp2
  go_loopw [7, 12] (fun vn vi wr => ∃ (k : Nat) (Q : PM), k ≤ m ∧ vi = .int .i64 k ∧ vn = .int .i64 (Q.S.length - P.S.length : Int) ∧ Hid (∃ sv', Q = { P with sv := sv', S := gives P.pages tx P.S (ids.take k) }) ∧ Hid (PAt w0 R r Q wr)) (fun _ vi _ => m - (RowKit.intOf vi).toNat)
  case atStart => exact ⟨0, P, Nat.zero_le _, rfl, by simp, ⟨P.sv, rfl⟩, H⟩
  case round =>
    clear H
    obtain ⟨k, Q, hk, rfl, rfl, HE, HQ⟩ := hrel
    by_cases hlt : k < m
    · obtain ⟨x, hx⟩ : ∃ x, ids[k]? = some x := ⟨_, List.getElem?_eq_getElem (by have := HM.out; omega)⟩
      obtain ⟨b, off, rfl, x1⟩ := HI2.out Q wr HQ.out k x hx
      have HN := Lib.hid (gives_next P.pages tx P.S hx)
      have hgl := gives_len P.pages tx (ids.take k) P.S
      have hgr := gives_rise (p := P.pages) (tx := tx) (ids.take k) HR.out
      obtain ⟨sv0, hQe⟩ := HE.out
      have hQS : Q.S = gives P.pages tx P.S (ids.take k) := by rw [hQe]
      have hQp : Q.pages = P.pages := by rw [hQe]
      rw [← hQS] at hgl hgr
      have hkl : (ids.take k).length = k := by rw [List.length_take]; have := HM.out; omega
      rw [hkl] at hgl
      have hG := HQ.out.give1_ tx x (by omega) hgr
      have HGl := Lib.hid (giveS_len Q.pages tx Q.S x)
      have b0 : (0 : Int) ≤ (k : Int) := by omega
      have b1 : (k : Int) < (m : Int) := by omega
      have hQl : Q.S.length ≤ 9999 := by omega
      have hPQ := hgl.1
      have HEq := Lib.hid hQe
      have HQS := Lib.hid hQS
      have HQp := Lib.hid hQp
      clear hx hQe hkl hgl hgr hQS hQp
      by_cases hc : 2 ≤ x ∧ x < Q.pages ∧ x ∉ idsS Q.S
      · rw [decide_eq_true hc] at hG
        have HG := Lib.hid hG
        have HL : Hid ((giveS Q.pages tx Q.S x).length = Q.S.length + 1) := by show _ = _; unfold giveS; rw [if_pos hc, add_len]
        clear hG hc
        go_wp2_with (go_at_call 36; (with_reducible refine HG.out.mono ?_); rintro e w2 ⟨sv', rfl, hy⟩; have HY := Lib.hid hy; clear hy)
        go_roundw
        case rel => exact ⟨k + 1, { Q with sv := sv', S := giveS Q.pages tx Q.S x }, by omega, by go_num, by show _ = Value.int .i64 (((giveS Q.pages tx Q.S x).length : Int) - _); rw [HL.out]; congr 1; omega, ⟨sv', by rw [HN.out, ← HQS.out, HQp.out, HEq.out]⟩, HY⟩
        case measure => simp [RowKit.intOf]; omega
      · rw [decide_eq_false hc] at hG
        have HG := Lib.hid hG
        have HL : Hid ((giveS Q.pages tx Q.S x).length = Q.S.length) := by show _ = _; unfold giveS; rw [if_neg hc]
        clear hG hc
        go_wp2_with (go_at_call 36; (with_reducible refine HG.out.mono ?_); rintro e w2 ⟨sv', rfl, hy⟩; have HY := Lib.hid hy; clear hy)
        go_roundw
        case rel => exact ⟨k + 1, { Q with sv := sv', S := giveS Q.pages tx Q.S x }, by omega, by go_num, by show _ = Value.int .i64 (((giveS Q.pages tx Q.S x).length : Int) - _); rw [HL.out], ⟨sv', by rw [HN.out, ← HQS.out, HQp.out, HEq.out]⟩, HY⟩
        case measure => simp [RowKit.intOf]; omega
    · obtain rfl : k = m := by omega
      have HF : Hid (∃ sv', Q = { P with sv := sv', S := gives P.pages tx P.S ids }) := by
        obtain ⟨sv', e⟩ := HE.out
        exact ⟨sv', by rw [e, List.take_of_length_le (by have := HM.out; omega)]⟩
      clear HE
      go_wp2
      go_ret
      obtain ⟨sv', e⟩ := HF.out
      subst e
      exact ⟨sv', rfl, HQ.out⟩
theorem give1_nil (w : World) (tx id : Int) (hid : 2 ≤ id) : Calls Try.prog 36 #[.pointer none, .int .i64 tx, .int .i64 id] w fun e w' => e = .returned (.bool false) ∧ w = w' := by
  have HP := Lib.hid (pages_nil w)
  have d1 : decide (id < 2) = false := decide_eq_false (by omega)
  have d2 : decide (0 ≤ id) = true := decide_eq_true (by omega)
  go_enter Try.func36, Try.ntmps36
  go_wp2_with (go_at_call 27; (with_reducible refine HP.out.mono ?_); rintro e w2 ⟨rfl, rfl⟩)
  go_ret
  exact ⟨rfl, rfl⟩
end

end Go.Proofs.Ytoiaamijjcjjiaa.P7
