/-
  The program's list of free ids: Free, Pending, All. (For any seat that has free.List.)
-/
import Derived.Test.YtoiaamijjcjjiaaG5
namespace Go.Proofs.Ytoiaamijjcjjiaa.P7
open Go Go.RowKit Go.Lib Go.Proofs.Ytoiaamijjcjjiaa.PK

theorem freeC_any (w : World) (s : Sp) : Calls Try.prog 40 #[spVal s] w fun e w' => e = .returned (.bool s.fr) ∧ Below w.heap.size w w' := by
  go_enter Try.func40, Try.ntmps40
  go_wp2
  go_ret
  exact ⟨rfl, below_new w _⟩
theorem allC_any (w : World) (s : Sp) : Calls Try.prog 42 #[spVal s] w fun e w' => e = .returned (.bool true) ∧ Below w.heap.size w w' := by
  go_enter Try.func42, Try.ntmps42
  go_wp2
  go_ret
  exact ⟨rfl, below_new w _⟩
theorem pendC_any (w : World) (s : Sp) (p : Nat) (tx : Int) (hp : w.cell? ⟨p, 0, none⟩ = some (.int .i64 tx)) : Calls Try.prog 41 #[spVal s, .pointer (some ⟨p, 0, none⟩)] w fun e w' => e = .returned (.bool (!s.fr && s.tx == tx)) ∧ Below w.heap.size w w' := by
  have hpl : p < w.heap.size := block_lt_of_cell hp
  obtain ⟨id, fr, t⟩ := s
  cases fr with
  | true =>
    go_enter Try.func41, Try.ntmps41
    go_wp2
    go_ret
    exact ⟨rfl, below_new w _⟩
  | false =>
    go_enter Try.func41, Try.ntmps41
    go_wp2
    go_ret
    exact ⟨rfl, below_new w _⟩
theorem filt_next {S : List Sp} {k : Nat} {s : Sp} (hs : S[k]? = some s) (q : Sp → Bool) : idsS ((S.take (k + 1)).filter q) = idsS ((S.take k).filter q) ++ if q s then [s.id] else [] := by
  unfold idsS
  rw [List.take_add_one, hs, List.filter_append, List.map_append]
  congr 1
  cases e : q s <;> simp [e]
section
variable {w0 w w' : World} {R : List Row} {r : Nat} {P : PM}
set_option maxRecDepth 100000 in
set_option maxHeartbeats 2000000 in
theorem PAt.ids_free (h : PAt w0 R r P w) :
    Calls Try.prog 39 #[.pointer (some ⟨r, 0, none⟩), .func (.func 40) #[] #[]] w fun e w' => ∃ u, e = .returned u ∧ (iRow u (idsS (P.S.filter Sp.fr))).At w' w.heap.size ∧ Below w.heap.size w w' := by
  obtain ⟨i0, hi0, hz0, hz1, hz2⟩ := info_parts infoI7
  obtain ⟨a, c, _, hga, hNc, hcm, hx, hC⟩ := h.shape
  have HQ : Hid (∀ W, Below w.heap.size w W → ∀ s, Calls Try.prog 40 #[spVal s] W fun e w' => e = .returned (.bool (Sp.fr s)) ∧ Below W.heap.size W w') := fun W hW s => freeC_any W s
  obtain ⟨q, hq⟩ : ∃ q : Sp → Bool, q = Sp.fr := ⟨_, rfl⟩
  rw [← hq] at HQ ⊢
  obtain ⟨S, hS⟩ : ∃ S, S = P.S := ⟨_, rfl⟩
  obtain ⟨N, hN⟩ : ∃ N, N = P.S.length := ⟨_, rfl⟩
  rw [← hN] at hga hNc hx
  rw [← hS] at hC ⊢
  rw [← hS] at hN
  have x1 := (hx w h).2
  have HC := Lib.hid hC
  have hlen := h.few
  rw [← hS, ← hN] at hlen
  have hrw := h.lo.2
  have HN := Lib.hid hN
  unfold maxLen at hcm
  clear hC hx hS hN h hq
  go_enter Try.func39, Try.ntmps39
  go_wp2
  go_loopw [5, 15] (fun vo vi wr => ∃ k : Nat, k ≤ N ∧ vi = .int .i64 k ∧ Hid (wr.ownsRow w.heap.size 3 1 vo (idsS ((S.take k).filter q)).length ((idsS ((S.take k).filter q)).map (Value.int .i64))) ∧ Hid (Below w.heap.size w wr)) (fun _ vi _ => N - (RowKit.intOf vi).toNat)
  case atStart => exact ⟨0, Nat.zero_le _, rfl, World.ownsRow_nil _ _ _ _, Below.refl _ _⟩
  case round =>
    obtain ⟨k, hk, rfl, HO, HB⟩ := hrel
    by_cases hlt : k < N
    · obtain ⟨s, hs⟩ : ∃ s, S[k]? = some s := ⟨_, List.getElem?_eq_getElem (by have := HN.out; omega)⟩
      obtain ⟨g, rfl, c1, c2, c3⟩ := HC.out wr HB.out k s hs
      have HF := Lib.hid (filt_next hs q)
      have hs1 := HB.out.size
      have kk : (k : Int) < (N : Int) := by omega
      have kk0 : (0 : Int) ≤ (k : Int) := by omega
      have hg : g < wr.heap.size := block_lt_of_cell c1
      have hdl : (idsS ((S.take k).filter q)).length ≤ 10000 := by
        rw [ids_len]
        have h1 := List.length_filter_le q (S.take k)
        rw [List.length_take] at h1
        omega
      have HB1 := Lib.hid (fun o => HB.out.alloc hs1 o)
      have HO1 := Lib.hid (fun o => HO.out.alloc o)
      obtain ⟨m, hm⟩ : ∃ m, m = idsS ((S.take k).filter q) := ⟨_, rfl⟩
      rw [← hm] at HO1 hdl HF
      clear hs hm HO
      cases hqs : q s with
      | false =>
        have HN2 : Hid (idsS ((S.take (k + 1)).filter q) = m) := by show _ = _; rw [HF.out, hqs]; exact List.append_nil _
        have HK : Hid (∀ o, Calls Try.prog 40 #[spVal s] (wr.alloc o) fun e w' => e = .returned (.bool false) ∧ Below (wr.alloc o).heap.size (wr.alloc o) w') := fun o => by rw [← hqs]; exact HQ.out _ (HB1.out o) s
        clear hqs HF
        go_wp2_with (go_at_call 40; (with_reducible refine (HK.out _).mono ?_); rintro e w2 ⟨rfl, hb⟩)
        have HBe := Lib.hid (thenBelow (HB1.out _) hb)
        have HOe := Lib.hid (owns_below (HO1.out _) hb)
        clear hb
        go_roundw
        case rel => exact ⟨k + 1, by omega, by go_num, by rw [HN2.out]; exact HOe, HBe⟩
        case measure => simp [RowKit.intOf]; omega
      | true =>
        have HN2 : Hid (idsS ((S.take (k + 1)).filter q) = m ++ [s.id]) := by show _ = _; rw [HF.out, hqs]; rfl
        have HK : Hid (∀ o, Calls Try.prog 40 #[spVal s] (wr.alloc o) fun e w' => e = .returned (.bool true) ∧ Below (wr.alloc o).heap.size (wr.alloc o) w') := fun o => by rw [← hqs]; exact HQ.out _ (HB1.out o) s
        clear hqs HF
        go_wp2_with (first
          | (go_at_call 40; (with_reducible refine (HK.out _).mono ?_); rintro e w2 ⟨rfl, hb⟩; have hc0 := (cell_at ((hb.block wr.heap.size (by simp)).trans (new_at wr _ _)) 0); have HBe := Lib.hid (thenBelow (HB1.out _) hb); have HOe := Lib.hid (owns_below (HO1.out _) hb); have hsz2 := HBe.out.size; clear hb)
          | (at_builtin; refine wpList_append_own _ rfl _ _ 22 rfl w.heap.size 3 i0 (.int .i64 0) 1 8 Try.underlying22 hi0 hz0 hz1 hz2 rfl (by decide) _ _ _ rfl (HOe.out.alloc _) ⟨w2.heap.size, 0, none⟩ 1 1 [.int .i64 s.id] rfl rfl ?c1 ?c2 ?c3 ?c4 ?c5 ?_))
        case c1 => exact cells_new _ [.int .i64 s.id] _
        case c2 => intro u hu; simp at hu; subst hu; rfl
        case c3 => unfold maxLen; omega
        case c4 => omega
        case c5 => simp; omega
        intro v' w3 hown' hgrow _
        have hb2 := Lib.hid (show Below w.heap.size w w3 from (HBe.out.alloc HBe.out.size _).grown hgrow (by simp; omega) (fun z hz => (HOe.out.lt z hz).1))
        have hO2 := Lib.hid (show w3.ownsRow w.heap.size 3 1 v' (idsS ((S.take (k + 1)).filter q)).length ((idsS ((S.take (k + 1)).filter q)).map (Value.int .i64)) from by
          rw [HN2.out, List.length_append, List.map_append]; exact hown')
        clear hown' hgrow
        go_wp2
        go_roundw
        case rel => exact ⟨k + 1, by omega, by go_num, hO2, hb2⟩
        case measure => simp [RowKit.intOf]; omega
    · obtain rfl : k = N := by omega
      have hO : Hid (wr.ownsRow w.heap.size 3 1 u5 (idsS (S.filter q)).length ((idsS (S.filter q)).map (Value.int .i64))) := by
        have h9 := HO.out
        rw [List.take_of_length_le (by have := HN.out; omega)] at h9
        exact h9
      clear HO
      go_wp2
      go_ret
      exact ⟨_, rfl, iRow_owns.2 hO.out, HB.out⟩
set_option maxRecDepth 100000 in
set_option maxHeartbeats 2000000 in
theorem PAt.ids_all (h : PAt w0 R r P w) :
    Calls Try.prog 39 #[.pointer (some ⟨r, 0, none⟩), .func (.func 42) #[] #[]] w fun e w' => ∃ u, e = .returned u ∧ (iRow u (idsS (P.S.filter (fun _ => true)))).At w' w.heap.size ∧ Below w.heap.size w w' := by
  obtain ⟨i0, hi0, hz0, hz1, hz2⟩ := info_parts infoI7
  obtain ⟨a, c, _, hga, hNc, hcm, hx, hC⟩ := h.shape
  have HQ : Hid (∀ W, Below w.heap.size w W → ∀ s, Calls Try.prog 42 #[spVal s] W fun e w' => e = .returned (.bool ((fun _ => true) s)) ∧ Below W.heap.size W w') := fun W hW s => allC_any W s
  obtain ⟨q, hq⟩ : ∃ q : Sp → Bool, q = (fun _ => true) := ⟨_, rfl⟩
  rw [← hq] at HQ ⊢
  obtain ⟨S, hS⟩ : ∃ S, S = P.S := ⟨_, rfl⟩
  obtain ⟨N, hN⟩ : ∃ N, N = P.S.length := ⟨_, rfl⟩
  rw [← hN] at hga hNc hx
  rw [← hS] at hC ⊢
  rw [← hS] at hN
  have x1 := (hx w h).2
  have HC := Lib.hid hC
  have hlen := h.few
  rw [← hS, ← hN] at hlen
  have hrw := h.lo.2
  have HN := Lib.hid hN
  unfold maxLen at hcm
  clear hC hx hS hN h hq
  go_enter Try.func39, Try.ntmps39
  go_wp2
  go_loopw [5, 15] (fun vo vi wr => ∃ k : Nat, k ≤ N ∧ vi = .int .i64 k ∧ Hid (wr.ownsRow w.heap.size 3 1 vo (idsS ((S.take k).filter q)).length ((idsS ((S.take k).filter q)).map (Value.int .i64))) ∧ Hid (Below w.heap.size w wr)) (fun _ vi _ => N - (RowKit.intOf vi).toNat)
  case atStart => exact ⟨0, Nat.zero_le _, rfl, World.ownsRow_nil _ _ _ _, Below.refl _ _⟩
  case round =>
    obtain ⟨k, hk, rfl, HO, HB⟩ := hrel
    by_cases hlt : k < N
    · obtain ⟨s, hs⟩ : ∃ s, S[k]? = some s := ⟨_, List.getElem?_eq_getElem (by have := HN.out; omega)⟩
      obtain ⟨g, rfl, c1, c2, c3⟩ := HC.out wr HB.out k s hs
      have HF := Lib.hid (filt_next hs q)
      have hs1 := HB.out.size
      have kk : (k : Int) < (N : Int) := by omega
      have kk0 : (0 : Int) ≤ (k : Int) := by omega
      have hg : g < wr.heap.size := block_lt_of_cell c1
      have hdl : (idsS ((S.take k).filter q)).length ≤ 10000 := by
        rw [ids_len]
        have h1 := List.length_filter_le q (S.take k)
        rw [List.length_take] at h1
        omega
      have HB1 := Lib.hid (fun o => HB.out.alloc hs1 o)
      have HO1 := Lib.hid (fun o => HO.out.alloc o)
      obtain ⟨m, hm⟩ : ∃ m, m = idsS ((S.take k).filter q) := ⟨_, rfl⟩
      rw [← hm] at HO1 hdl HF
      clear hs hm HO
      cases hqs : q s with
      | false =>
        have HN2 : Hid (idsS ((S.take (k + 1)).filter q) = m) := by show _ = _; rw [HF.out, hqs]; exact List.append_nil _
        have HK : Hid (∀ o, Calls Try.prog 42 #[spVal s] (wr.alloc o) fun e w' => e = .returned (.bool false) ∧ Below (wr.alloc o).heap.size (wr.alloc o) w') := fun o => by rw [← hqs]; exact HQ.out _ (HB1.out o) s
        clear hqs HF
        go_wp2_with (go_at_call 42; (with_reducible refine (HK.out _).mono ?_); rintro e w2 ⟨rfl, hb⟩)
        have HBe := Lib.hid (thenBelow (HB1.out _) hb)
        have HOe := Lib.hid (owns_below (HO1.out _) hb)
        clear hb
        go_roundw
        case rel => exact ⟨k + 1, by omega, by go_num, by rw [HN2.out]; exact HOe, HBe⟩
        case measure => simp [RowKit.intOf]; omega
      | true =>
        have HN2 : Hid (idsS ((S.take (k + 1)).filter q) = m ++ [s.id]) := by show _ = _; rw [HF.out, hqs]; rfl
        have HK : Hid (∀ o, Calls Try.prog 42 #[spVal s] (wr.alloc o) fun e w' => e = .returned (.bool true) ∧ Below (wr.alloc o).heap.size (wr.alloc o) w') := fun o => by rw [← hqs]; exact HQ.out _ (HB1.out o) s
        clear hqs HF
        go_wp2_with (first
          | (go_at_call 42; (with_reducible refine (HK.out _).mono ?_); rintro e w2 ⟨rfl, hb⟩; have hc0 := (cell_at ((hb.block wr.heap.size (by simp)).trans (new_at wr _ _)) 0); have HBe := Lib.hid (thenBelow (HB1.out _) hb); have HOe := Lib.hid (owns_below (HO1.out _) hb); have hsz2 := HBe.out.size; clear hb)
          | (at_builtin; refine wpList_append_own _ rfl _ _ 22 rfl w.heap.size 3 i0 (.int .i64 0) 1 8 Try.underlying22 hi0 hz0 hz1 hz2 rfl (by decide) _ _ _ rfl (HOe.out.alloc _) ⟨w2.heap.size, 0, none⟩ 1 1 [.int .i64 s.id] rfl rfl ?c1 ?c2 ?c3 ?c4 ?c5 ?_))
        case c1 => exact cells_new _ [.int .i64 s.id] _
        case c2 => intro u hu; simp at hu; subst hu; rfl
        case c3 => unfold maxLen; omega
        case c4 => omega
        case c5 => simp; omega
        intro v' w3 hown' hgrow _
        have hb2 := Lib.hid (show Below w.heap.size w w3 from (HBe.out.alloc HBe.out.size _).grown hgrow (by simp; omega) (fun z hz => (HOe.out.lt z hz).1))
        have hO2 := Lib.hid (show w3.ownsRow w.heap.size 3 1 v' (idsS ((S.take (k + 1)).filter q)).length ((idsS ((S.take (k + 1)).filter q)).map (Value.int .i64)) from by
          rw [HN2.out, List.length_append, List.map_append]; exact hown')
        clear hown' hgrow
        go_wp2
        go_roundw
        case rel => exact ⟨k + 1, by omega, by go_num, hO2, hb2⟩
        case measure => simp [RowKit.intOf]; omega
    · obtain rfl : k = N := by omega
      have hO : Hid (wr.ownsRow w.heap.size 3 1 u5 (idsS (S.filter q)).length ((idsS (S.filter q)).map (Value.int .i64))) := by
        have h9 := HO.out
        rw [List.take_of_length_le (by have := HN.out; omega)] at h9
        exact h9
      clear HO
      go_wp2
      go_ret
      exact ⟨_, rfl, iRow_owns.2 hO.out, HB.out⟩
set_option maxRecDepth 100000 in
set_option maxHeartbeats 2000000 in
theorem PAt.ids_pend (h : PAt w0 R r P w) (p : Nat) (tx : Int) (hp : w.cell? ⟨p, 0, none⟩ = some (.int .i64 tx)) :
    Calls Try.prog 39 #[.pointer (some ⟨r, 0, none⟩), .func (.func 41) #[] #[.pointer (some ⟨p, 0, none⟩)]] w fun e w' => ∃ u, e = .returned u ∧ (iRow u (idsS (P.S.filter (fun s => !s.fr && s.tx == tx)))).At w' w.heap.size ∧ Below w.heap.size w w' := by
  have hpl := block_lt_of_cell hp
  obtain ⟨i0, hi0, hz0, hz1, hz2⟩ := info_parts infoI7
  obtain ⟨a, c, _, hga, hNc, hcm, hx, hC⟩ := h.shape
  have HQ : Hid (∀ W, Below w.heap.size w W → ∀ s, Calls Try.prog 41 #[spVal s, .pointer (some ⟨p, 0, none⟩)] W fun e w' => e = .returned (.bool ((fun s => !s.fr && s.tx == tx) s)) ∧ Below W.heap.size W w') := fun W hW s => pendC_any W s p tx (by rw [hW.cell (p := ⟨p, 0, none⟩) hpl]; exact hp)
  obtain ⟨q, hq⟩ : ∃ q : Sp → Bool, q = (fun s => !s.fr && s.tx == tx) := ⟨_, rfl⟩
  rw [← hq] at HQ ⊢
  obtain ⟨S, hS⟩ : ∃ S, S = P.S := ⟨_, rfl⟩
  obtain ⟨N, hN⟩ : ∃ N, N = P.S.length := ⟨_, rfl⟩
  rw [← hN] at hga hNc hx
  rw [← hS] at hC ⊢
  rw [← hS] at hN
  have x1 := (hx w h).2
  have HC := Lib.hid hC
  have hlen := h.few
  rw [← hS, ← hN] at hlen
  have hrw := h.lo.2
  have HN := Lib.hid hN
  unfold maxLen at hcm
  clear hC hx hS hN h hq
  go_enter Try.func39, Try.ntmps39
  go_wp2
  go_loopw [5, 15] (fun vo vi wr => ∃ k : Nat, k ≤ N ∧ vi = .int .i64 k ∧ Hid (wr.ownsRow w.heap.size 3 1 vo (idsS ((S.take k).filter q)).length ((idsS ((S.take k).filter q)).map (Value.int .i64))) ∧ Hid (Below w.heap.size w wr)) (fun _ vi _ => N - (RowKit.intOf vi).toNat)
  case atStart => exact ⟨0, Nat.zero_le _, rfl, World.ownsRow_nil _ _ _ _, Below.refl _ _⟩
  case round =>
    obtain ⟨k, hk, rfl, HO, HB⟩ := hrel
    by_cases hlt : k < N
    · obtain ⟨s, hs⟩ : ∃ s, S[k]? = some s := ⟨_, List.getElem?_eq_getElem (by have := HN.out; omega)⟩
      obtain ⟨g, rfl, c1, c2, c3⟩ := HC.out wr HB.out k s hs
      have HF := Lib.hid (filt_next hs q)
      have hs1 := HB.out.size
      have kk : (k : Int) < (N : Int) := by omega
      have kk0 : (0 : Int) ≤ (k : Int) := by omega
      have hg : g < wr.heap.size := block_lt_of_cell c1
      have hdl : (idsS ((S.take k).filter q)).length ≤ 10000 := by
        rw [ids_len]
        have h1 := List.length_filter_le q (S.take k)
        rw [List.length_take] at h1
        omega
      have HB1 := Lib.hid (fun o => HB.out.alloc hs1 o)
      have HO1 := Lib.hid (fun o => HO.out.alloc o)
      obtain ⟨m, hm⟩ : ∃ m, m = idsS ((S.take k).filter q) := ⟨_, rfl⟩
      rw [← hm] at HO1 hdl HF
      clear hs hm HO
      cases hqs : q s with
      | false =>
        have HN2 : Hid (idsS ((S.take (k + 1)).filter q) = m) := by show _ = _; rw [HF.out, hqs]; exact List.append_nil _
        have HK : Hid (∀ o, Calls Try.prog 41 #[spVal s, .pointer (some ⟨p, 0, none⟩)] (wr.alloc o) fun e w' => e = .returned (.bool false) ∧ Below (wr.alloc o).heap.size (wr.alloc o) w') := fun o => by rw [← hqs]; exact HQ.out _ (HB1.out o) s
        clear hqs HF
        go_wp2_with (go_at_call 41; (with_reducible refine (HK.out _).mono ?_); rintro e w2 ⟨rfl, hb⟩)
        have HBe := Lib.hid (thenBelow (HB1.out _) hb)
        have HOe := Lib.hid (owns_below (HO1.out _) hb)
        clear hb
        go_roundw
        case rel => exact ⟨k + 1, by omega, by go_num, by rw [HN2.out]; exact HOe, HBe⟩
        case measure => simp [RowKit.intOf]; omega
      | true =>
        have HN2 : Hid (idsS ((S.take (k + 1)).filter q) = m ++ [s.id]) := by show _ = _; rw [HF.out, hqs]; rfl
        have HK : Hid (∀ o, Calls Try.prog 41 #[spVal s, .pointer (some ⟨p, 0, none⟩)] (wr.alloc o) fun e w' => e = .returned (.bool true) ∧ Below (wr.alloc o).heap.size (wr.alloc o) w') := fun o => by rw [← hqs]; exact HQ.out _ (HB1.out o) s
        clear hqs HF
        go_wp2_with (first
          | (go_at_call 41; (with_reducible refine (HK.out _).mono ?_); rintro e w2 ⟨rfl, hb⟩; have hc0 := (cell_at ((hb.block wr.heap.size (by simp)).trans (new_at wr _ _)) 0); have HBe := Lib.hid (thenBelow (HB1.out _) hb); have HOe := Lib.hid (owns_below (HO1.out _) hb); have hsz2 := HBe.out.size; clear hb)
          | (at_builtin; refine wpList_append_own _ rfl _ _ 22 rfl w.heap.size 3 i0 (.int .i64 0) 1 8 Try.underlying22 hi0 hz0 hz1 hz2 rfl (by decide) _ _ _ rfl (HOe.out.alloc _) ⟨w2.heap.size, 0, none⟩ 1 1 [.int .i64 s.id] rfl rfl ?c1 ?c2 ?c3 ?c4 ?c5 ?_))
        case c1 => exact cells_new _ [.int .i64 s.id] _
        case c2 => intro u hu; simp at hu; subst hu; rfl
        case c3 => unfold maxLen; omega
        case c4 => omega
        case c5 => simp; omega
        intro v' w3 hown' hgrow _
        have hb2 := Lib.hid (show Below w.heap.size w w3 from (HBe.out.alloc HBe.out.size _).grown hgrow (by simp; omega) (fun z hz => (HOe.out.lt z hz).1))
        have hO2 := Lib.hid (show w3.ownsRow w.heap.size 3 1 v' (idsS ((S.take (k + 1)).filter q)).length ((idsS ((S.take (k + 1)).filter q)).map (Value.int .i64)) from by
          rw [HN2.out, List.length_append, List.map_append]; exact hown')
        clear hown' hgrow
        go_wp2
        go_roundw
        case rel => exact ⟨k + 1, by omega, by go_num, hO2, hb2⟩
        case measure => simp [RowKit.intOf]; omega
    · obtain rfl : k = N := by omega
      have hO : Hid (wr.ownsRow w.heap.size 3 1 u5 (idsS (S.filter q)).length ((idsS (S.filter q)).map (Value.int .i64))) := by
        have h9 := HO.out
        rw [List.take_of_length_le (by have := HN.out; omega)] at h9
        exact h9
      clear HO
      go_wp2
      go_ret
      exact ⟨_, rfl, iRow_owns.2 hO.out, HB.out⟩
/-- Free, Pending, All -/
theorem PAt.free_ (h : PAt w0 R r P w) : Calls Try.prog 20 #[.pointer (some ⟨r, 0, none⟩)] w fun e w' => ∃ u, e = .returned u ∧ (iRow u (freeS P.S)).At w' w.heap.size ∧ Below w.heap.size w w' := by
  have HI := Lib.hid h.ids_free
  clear h
  go_enter Try.func20, Try.ntmps20
  go_wp2_with (go_at_call 39; (with_reducible refine HI.out.mono ?_); rintro e w2 ⟨u, rfl, h1, h2⟩; have H1 := Lib.hid h1; have H2 := Lib.hid h2; clear h1 h2)
  go_ret
  exact ⟨_, rfl, H1.out, H2.out⟩
theorem PAt.all_ (h : PAt w0 R r P w) : Calls Try.prog 22 #[.pointer (some ⟨r, 0, none⟩)] w fun e w' => ∃ u, e = .returned u ∧ (iRow u (idsS P.S)).At w' w.heap.size ∧ Below w.heap.size w w' := by
  have HI := Lib.hid h.ids_all
  have hft : P.S.filter (fun _ => true) = P.S := List.filter_eq_self.2 fun _ _ => rfl
  rw [hft] at HI
  clear hft
  clear h
  go_enter Try.func22, Try.ntmps22
  go_wp2_with (go_at_call 39; (with_reducible refine HI.out.mono ?_); rintro e w2 ⟨u, rfl, h1, h2⟩; have H1 := Lib.hid h1; have H2 := Lib.hid h2; clear h1 h2)
  go_ret
  exact ⟨_, rfl, H1.out, H2.out⟩
theorem PAt.pend_ (h : PAt w0 R r P w) (tx : Int) : Calls Try.prog 21 #[.pointer (some ⟨r, 0, none⟩), .int .i64 tx] w fun e w' => ∃ u, e = .returned u ∧ (iRow u (pendS tx P.S)).At w' w.heap.size ∧ Below w.heap.size w w' := by
  have HI := Lib.hid ((h.over (below_new w (.cells #[.int .i64 tx] 3))).ids_pend w.heap.size tx (by rw [cell_at (new_at w _ _)]; rfl))
  clear h
  go_enter Try.func21, Try.ntmps21
  go_wp2_with (go_at_call 39; (with_reducible refine HI.out.mono ?_); rintro e w2 ⟨u, rfl, h1, h2⟩; have H1 := Lib.hid h1; have H2 := Lib.hid h2; clear h1 h2)
  go_ret
  exact ⟨_, rfl, owns_lo H1.out (below_new w _).size, thenBelow (below_new w _) H2.out⟩
theorem all_nil (w : World) : Calls Try.prog 22 #[.pointer none] w fun e w' => ∃ u, e = .returned u ∧ u = .slice none 0 0 ∧ w = w' := by
  have HI : Hid (∀ f, Calls Try.prog 39 #[.pointer none, f] w fun e w' => e = .returned (.slice none 0 0) ∧ w = w') := fun f => by
    go_enter Try.func39, Try.ntmps39
    go_wp2
    go_ret
    exact ⟨rfl, rfl⟩
  go_enter Try.func22, Try.ntmps22
  go_wp2_with (go_at_call 39; (with_reducible refine (HI.out _).mono ?_); rintro e w2 ⟨rfl, rfl⟩)
  go_ret
  exact ⟨_, rfl, rfl, rfl⟩
end

end Go.Proofs.Ytoiaamijjcjjiaa.P7
