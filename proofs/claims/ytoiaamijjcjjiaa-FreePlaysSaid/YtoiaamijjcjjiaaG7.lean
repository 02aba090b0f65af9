/-
  The program's list of free ids: Take. (For any seat that has free.List.)
-/
import Derived.Test.YtoiaamijjcjjiaaG6
namespace Go.Proofs.Ytoiaamijjcjjiaa.P7
open Go Go.RowKit Go.Lib Go.Proofs.Ytoiaamijjcjjiaa.PK

section
variable {w0 w w1 w2 w' : World} {R : List Row} {r : Nat} {P : PM}
/-- its pages are others by now -/
theorem PAt.setS {v' : Value} {S' : List Sp} (h : PAt w0 R r P w) (hg : w.grownBy w1 P.sv.ownBlock) (hv : (sRow v' S').At w1 w0.heap.size) (hf : v'.ownBlock = P.sv.ownBlock ∨ ∀ g, v'.ownBlock = some g → w.heap.size ≤ g) (hl : S'.length ≤ 10000) :
    w1.cell? ⟨r, 1, none⟩ = some P.sv ∧ w1.frozen? ⟨r, 1, none⟩ = false ∧ PAt w0 R r { P with sv := v', S := S' } (w1.setCell ⟨r, 1, none⟩ v') := by
  have hrows : Rws w0 ([bl r P.cells 68] ++ sRow P.sv P.S :: R) w := h.rows
  have h1 := hrows.grown hg hv hf
  have hb := h1.block (b := r) (cs := P.cells) (t := 68) (by simp)
  refine ⟨by rw [cell_at hb]; rfl, free_at hb 1, ?_, hl, h.two⟩
  have h2 : Rws w0 ([] ++ (bl r P.cells 68 :: (sRow v' S' :: R))) w1 := h1
  have h3 := h2.set (g := r) rfl 1 v' (by show 1 < 2 * 1; decide)
  rw [bl_set] at h3
  exact h3
theorem PAt.run_hit (h : PAt w0 R r P w) {n k : Nat} (h1 : 1 ≤ n) (h2 : n ≤ 20) (hid : ∀ s ∈ P.S, 0 ≤ s.id ∧ s.id ≤ 1000000) (hr : runAt P.S k n) (hl : ∀ i, i < k → ¬ runAt P.S i n) :
    Calls Try.prog 32 #[.pointer (some ⟨r, 0, none⟩), .int .i64 n] w fun e w' => e = .returned (.tuple #[.int .i64 k, .bool true]) ∧ Below w.heap.size w w' := by
  refine (h.run_ n h1 h2 hid).mono ?_
  rintro e w' ⟨(⟨j, rfl, hj, hlj⟩ | ⟨_, hn⟩), hb⟩
  · obtain rfl : j = k := by
      rcases Nat.lt_trichotomy j k with q | q | q
      · exact absurd hj (hl j q)
      · exact q
      · exact absurd hr (hlj k q)
    exact ⟨rfl, hb⟩
  · exact absurd hr (hn k)
theorem PAt.run_none (h : PAt w0 R r P w) {n : Nat} (h1 : 1 ≤ n) (h2 : n ≤ 20) (hid : ∀ s ∈ P.S, 0 ≤ s.id ∧ s.id ≤ 1000000) (hl : ∀ i, ¬ runAt P.S i n) :
    Calls Try.prog 32 #[.pointer (some ⟨r, 0, none⟩), .int .i64 n] w fun e w' => e = .returned (.tuple #[.int .i64 0, .bool false]) ∧ Below w.heap.size w w' := by
  refine (h.run_ n h1 h2 hid).mono ?_
  rintro e w' ⟨(⟨j, rfl, hj, _⟩ | ⟨rfl, _⟩), hb⟩
  · exact absurd hj (hl j)
  · exact ⟨rfl, hb⟩
theorem least_of {p : Nat → Prop} (h : ∃ k, p k) : ∃ k, p k ∧ ∀ i, i < k → ¬ p i := by
  obtain ⟨k, hk⟩ := h
  induction k using Nat.strongRecOn with
  | _ k ih =>
    by_cases q : ∃ i, i < k ∧ p i
    · obtain ⟨i, hi, hp⟩ := q
      exact ih i hi hp
    · exact ⟨k, hk, fun i hi hp => q ⟨i, hi, hp⟩⟩
theorem fine_ids {S : List Sp} {F : FM} (ht : Tie S F) (hF : Fine F) : ∀ s ∈ S, 2 ≤ s.id ∧ s.id < F.pages := fun s hs => by
  cases hf : s.fr with
  | true => exact hF.low _ ((ht.fre _).2 ⟨s, hs, hf, rfl⟩)
  | false => exact hF.lowW _ ((ht.pen s.tx s.id).2 ⟨s, hs, hf, rfl, rfl⟩)
set_option maxRecDepth 100000 in
set_option maxHeartbeats 2000000 in
theorem PAt.take_ (h : PAt w0 R r P w) (n : Int) (F : FM) (ht : Tie P.S F) (hF : Fine F) (hp : P.pages = F.pages) :
    Calls Try.prog 13 #[.pointer (some ⟨r, 0, none⟩), .int .i64 n] w fun e w' => ∃ P', e = .returned (.tuple #[.int .i64 (F.take n).2.1, .int .i64 (F.take n).2.2]) ∧ PAt w0 R r P' w' ∧ Tie P'.S (F.take n).1 ∧ P'.pages = (F.take n).1.pages := by
  have hids := fine_ids ht hF
  have hm := hF.most
  have hids2 : ∀ s ∈ P.S, 0 ≤ s.id ∧ s.id ≤ 1000000 := fun s hs => by have := hids s hs; omega
  by_cases hbad : n < 1 ∨ 20 < n
  · have HT := Lib.hid (FM.take_bad (F := F) hbad)
    have HE := Lib.hid (show PAt w0 R r P w ∧ Tie P.S F ∧ P.pages = F.pages from ⟨h, ht, hp⟩)
    have hbad2 : decide (n < 1) = true ∨ (decide (n < 1) = false ∧ decide (20 < n) = true) := by
      rcases hbad with q | q
      · exact .inl (decide_eq_true q)
      · by_cases q1 : n < 1
        · exact .inl (decide_eq_true q1)
        · exact .inr ⟨decide_eq_false q1, decide_eq_true q⟩
    clear hbad h ht hp hids hids2
    rcases hbad2 with q | ⟨q, q2⟩
    all_goals
      go_enter Try.func13, Try.ntmps13
      go_wp2
      go_ret2
      rw [HT.out]
      exact ⟨P, rfl, HE.out⟩
  · obtain ⟨m, rfl⟩ : ∃ m : Nat, n = m := ⟨n.toNat, by omega⟩
    have m1 : 1 ≤ m := by omega
    have m2 : m ≤ 20 := by omega
    have q1 : decide ((m : Int) < 1) = false := decide_eq_false (by omega)
    have q2 : decide ((20 : Int) < (m : Int)) = false := decide_eq_false (by omega)
    by_cases hr : ∃ k, runAt P.S k m
    · obtain ⟨k, hk, hl⟩ := least_of hr
      have HT := Lib.hid (FM.take_hit m1 m2 (tie_some ht hF m1 hk hl))
      have hkn := runAt_in hk m1
      obtain ⟨s, hs⟩ : ∃ s, P.S[k]? = some s := ⟨_, List.getElem?_eq_getElem (by omega)⟩
      have his : idAt P.S k = s.id := idAt_of hs
      obtain ⟨a, c, hsv, hga, hNc, hcm, hx, hC⟩ := h.shape
      have HRn := Lib.hid (h.run_hit m1 m2 hids2 hk hl)
      have H := Lib.hid h
      have HC := Lib.hid (fun W hW => hC W hW k s hs)
      have HX := Lib.hid (fun W (hW : Below w.heap.size w W) => (hx W (h.over hW)).2)
      have HD : Hid (∀ W, Below w.heap.size w W → Calls Try.prog 34 #[.slice a P.S.length c, .int .i64 k, .int .i64 ((k : Int) + (m : Int))] W fun e w' => ∃ a' n' c', e = .returned (.slice a' n' c') ∧ w'.cell? ⟨r, 1, none⟩ = some (.slice a P.S.length c) ∧ w'.frozen? ⟨r, 1, none⟩ = false ∧ PAt w0 R r { P with sv := .slice a' n' c', S := cutS P.S k m } (w'.setCell ⟨r, 1, none⟩ (.slice a' n' c'))) := fun W hW => by
        have hWp := h.over hW
        have hd := del_any W w0.heap.size P.sv P.S k m hWp.srow hkn m1
        rw [hsv] at hd
        rw [show ((k + m : Nat) : Int) = (k : Int) + (m : Int) by omega] at hd
        refine hd.mono ?_
        rintro e w' ⟨v', rfl, h1, h2, h3⟩
        obtain ⟨a', n', c', rfl⟩ := owns_shape h1
        have hcl : (cutS P.S k m).length ≤ P.S.length := (cut_sub P.S k m).length_le
        obtain ⟨e1, e2, e3⟩ := hWp.setS (by rw [hsv]; exact h2) h1 (.inl (by rw [hsv]; exact h3)) (by have := h.few; omega)
        exact ⟨a', n', c', rfl, by rw [e1, hsv], e2, e3⟩
      have HTi := Lib.hid (ht.cut hk)
      have HP := Lib.hid hp
      have HE := Lib.hid his
      have hkl : (k : Int) < (P.S.length : Int) := by omega
      have hk0 : (0 : Int) ≤ (k : Int) := by omega
      obtain ⟨N, hN⟩ : ∃ N, N = P.S.length := ⟨_, rfl⟩
      have hlen := h.few
      rw [← hN] at hkl HX HD hNc hlen
      clear h ht hp hids hids2 hk hl hx hC hs his hga hr hkn hbad hsv hN
      go_enter Try.func13, Try.ntmps13
      go_wp2_with (first
        | (go_at_call 32; (with_reducible refine HRn.out.mono ?_); rintro e w2 ⟨rfl, hb⟩; have HB := Lib.hid hb; have x1 := HX.out w2 hb; obtain ⟨g, rfl, c1, c2, c3⟩ := HC.out w2 hb; clear hb)
        | (go_at_call 34; (with_reducible refine (HD.out _ HB.out).mono ?_); rintro e w3 ⟨a', n', c', rfl, y1, y2, y3⟩; have HY := Lib.hid y3; clear y3))
      go_ret2
      rw [HT.out]
      exact ⟨_, by rw [HE.out]; rfl, HY.out, HTi.out, HP.out⟩
    · have hl : ∀ i, ¬ runAt P.S i m := fun i q => hr ⟨i, q⟩
      have HRn := Lib.hid (h.run_none m1 m2 hids2 hl)
      have hnone := tie_none ht m1 hl
      by_cases hq : 4000 < F.pages + (m : Int)
      · have HT := Lib.hid (FM.take_full m1 m2 hnone hq)
        have HG : Hid (∀ W, Below w.heap.size w W → Calls Try.prog 33 #[.pointer (some ⟨r, 0, none⟩), .int .i64 m] W fun e w' => e = .returned (.tuple #[.int .i64 0, .int .i64 20]) ∧ W = w') := fun W hW => (h.over hW).grow_full m (by omega) (by omega) (by omega) (by omega)
        have HE := Lib.hid (fun W (hW : Below w.heap.size w W) => show PAt w0 R r P W ∧ Tie P.S F ∧ P.pages = F.pages from ⟨h.over hW, ht, hp⟩)
        clear h ht hp hids hids2 hr hl hnone hq hbad
        go_enter Try.func13, Try.ntmps13
        go_wp2_with (first
          | (go_at_call 32; (with_reducible refine HRn.out.mono ?_); rintro e w2 ⟨rfl, hb⟩; have HB := Lib.hid hb; clear hb)
          | (go_at_call 33; (with_reducible refine (HG.out _ HB.out).mono ?_); rintro e w3 ⟨rfl, rfl⟩))
        go_ret2
        rw [HT.out]
        exact ⟨P, rfl, HE.out _ HB.out⟩
      · have HT := Lib.hid (FM.take_grow m1 m2 hnone hq)
        have HG : Hid (∀ W, Below w.heap.size w W → Calls Try.prog 33 #[.pointer (some ⟨r, 0, none⟩), .int .i64 m] W fun e w' => e = .returned (.tuple #[.int .i64 F.pages, .int .i64 0]) ∧ PAt w0 R r { P with pages := F.pages + m } w') := fun W hW => by
          have h9 := (h.over hW).grow_more m (by omega) (by omega) (by omega) (by omega)
          rw [hp] at h9
          exact h9
        have HTi : Hid (Tie P.S { F with pages := F.pages + m }) := ⟨ht.rise, ht.fre, ht.pen⟩
        clear h ht hp hids hids2 hr hl hnone hq hbad
        go_enter Try.func13, Try.ntmps13
        go_wp2_with (first
          | (go_at_call 32; (with_reducible refine HRn.out.mono ?_); rintro e w2 ⟨rfl, hb⟩; have HB := Lib.hid hb; clear hb)
          | (go_at_call 33; (with_reducible refine (HG.out _ HB.out).mono ?_); rintro e w3 ⟨rfl, hP⟩; have HY := Lib.hid hP; clear hP))
        go_ret2
        rw [HT.out]
        exact ⟨_, rfl, HY.out, HTi.out, rfl⟩
theorem take_nil (w : World) (n : Int) : Calls Try.prog 13 #[.pointer none, .int .i64 n] w fun e w' => e = .returned (.tuple #[.int .i64 0, .int .i64 1]) ∧ w = w' := by
  go_enter Try.func13, Try.ntmps13
  go_wp2
  go_ret2
  exact ⟨rfl, rfl⟩
end

end Go.Proofs.Ytoiaamijjcjjiaa.P7
