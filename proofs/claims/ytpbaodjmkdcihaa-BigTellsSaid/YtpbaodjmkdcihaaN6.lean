/-
  A value in pages: package big's Lay.
-/
import Derived.Test.YtpbaodjmkdcihaaN4
import Derived.Test.YtpbaodjmkdcihaaN6p
namespace Go.Proofs.Ytpbaodjmkdcihaa.P11
open Go Go.RowKit Go.Lib Go.Proofs.Ytpbaodjmkdcihaa.PK

set_option maxRecDepth 100000 in
set_option maxHeartbeats 4000000 in
theorem lay_any (w : World) (value : ByteArray) (first tx : Int) (hv : value.size ≤ 1000000) (hF : first ≤ 9223372036854775807) :
    Calls Try.prog 6 #[.string value, .int .i64 first, .int .i64 tx] w fun e w' => ∃ v, e = .returned (.tuple #[v, .int .i64 (layB value first tx).2]) ∧ OwnP w.heap.size w' v (layB value first tx).1 ∧ Below w.heap.size w w' := by
  by_cases hz : 2000 < value.size
  · have el : layB value first tx = ([], 1) := by
      unfold layB
      rw [if_neg (fun q => by have := q.1; omega)]
    have k0 : decide ((2000 : Int) < (value.size : Int)) = true := decide_eq_true (by omega)
    rw [el]
    clear el hz
    go_enter Try.func6, Try.ntmps6
    go_wp2
    go_ret2
    exact ⟨_, rfl, OwnP.nil _ _, Below.refl _ _⟩
  by_cases hf : first < 2
  · have el : layB value first tx = ([], 1) := by
      unfold layB
      rw [if_neg (fun q => by have := q.2.1; omega)]
    have k0 : decide ((2000 : Int) < (value.size : Int)) = false := decide_eq_false (by omega)
    have k1 : decide (first < 2) = true := decide_eq_true hf
    rw [el]
    clear el hz hf
    go_enter Try.func6, Try.ntmps6
    go_wp2
    go_ret2
    exact ⟨_, rfl, OwnP.nil _ _, Below.refl _ _⟩
  have k0 : decide ((2000 : Int) < (value.size : Int)) = false := decide_eq_false (by omega)
  have k1 : decide (first < 2) = false := decide_eq_false hf
  have h0 : value.size ≤ 2000 := by omega
  obtain ⟨i0, hi0, hz0, hz1, hz2⟩ := info_parts infoEPages
  obtain ⟨N, hN⟩ : ∃ N, N = needN value.size := ⟨_, rfl⟩
  have HNd : Hid (∀ W, Calls Try.prog 12 #[.int .i64 value.size] W fun e w' => e = .returned (.int .i64 N) ∧ Below W.heap.size W w') := fun W => by
    have := need_any W value.size (by omega)
    rwa [needB_nat, ← hN] at this
  have hNs : N ≤ 10 := by rw [hN]; unfold needN; omega
  have HV := Lib.hid (fun W p => valid_any W p)
  have HIn : Hid (∀ k, k < N → 232 * k ≤ value.size) := fun k hk => need_in (hN ▸ hk)
  have HPt := Lib.hid (fun W i hi => part_any W value i h0 hi)
  have HBad : Hid (¬ (first + (N : Int) ≤ 4000 ∧ 0 ≤ tx ∧ tx ≤ 1099511627776) → layB value first tx = ([], 1)) := fun h => by
    unfold layB
    rw [if_neg (fun q => h ⟨by rw [hN]; exact q.2.2.1, q.2.2.2⟩)]
  have HGood : Hid (first + (N : Int) ≤ 4000 ∧ 0 ≤ tx ∧ tx ≤ 1099511627776 → layB value first tx = (pagesB value first tx N, 0)) := fun h => by
    unfold layB
    rw [if_pos ⟨by omega, by omega, by rw [← hN]; exact h.1, h.2.1, h.2.2⟩, hN]
  have hNp : 1 ≤ N := by rw [hN]; exact needN_pos _
  have HOk := Lib.hid (fun k => pageB_ok (value := value) (tx := tx) (show 2 ≤ first by omega) k)
  clear hN
  have hf2 : 2 ≤ first := by omega
  clear hf hz
  go_enter Try.func6, Try.ntmps6
  go_wp2_with (first
    | (go_at_call 12; (with_reducible refine (HNd.out _).mono ?_); rintro e w1 ⟨rfl, hb⟩; have B1 := Lib.hid hb; clear hb))
  go_loopw [8, 21] (fun vl vi wr => ∃ i : Nat, i ≤ N ∧ vi = .int .i64 i ∧ Hid (i = 0 ∨ (first + (i : Int) ≤ 4000 ∧ 0 ≤ tx ∧ tx ≤ 1099511627776)) ∧ Hid (LyS w vl (pagesB value first tx i) wr)) (fun _ vi _ => N - (RowKit.intOf vi).toNat)
  case atStart => exact ⟨0, Nat.zero_le _, rfl, .inl rfl, (LyS.start w).over B1.out⟩
  case round =>
    obtain ⟨i, hi, rfl, HI, HS⟩ := hrel
    by_cases hlt : i < N
    · have k2 : (i : Int) < (N : Int) := by omega
      have hin := HIn.out i hlt
      have hw1 : IntKind.i64.wrap (first + (i : Int)) = first + (i : Int) := by
        have := HI.out
        rw [IntKind.wrap_i64]
        omega
      have HP1 : Hid (∀ W, Calls Try.prog 18 #[.string value, .int .i64 i] W fun e w' => e = .returned (.string (value.extract (232 * i) (min (232 * i + 232) value.size))) ∧ Below W.heap.size W w') := fun W => HPt.out W i hin
      have hP : pageB value first tx i = ⟨5, first + i, tx, value.extract (232 * i) (min (232 * i + 232) value.size)⟩ := rfl
      obtain ⟨E, hE⟩ : ∃ E, E = value.extract (232 * i) (min (232 * i + 232) value.size) := ⟨_, rfl⟩
      rw [← hE] at hP HP1
      by_cases hok : first + (i : Int) < 4000 ∧ 0 ≤ tx ∧ tx ≤ 1099511627776
      · have HVi : Hid (∀ W, Calls Try.prog 19 #[.agg #[.int .i64 5, .int .i64 (first + i), .int .i64 tx, .string E]] W fun r w' => r = .returned (.bool (decide (pageB value first tx i).ok)) ∧ Below W.heap.size W w') := fun W => by
          have := HV.out W (pageB value first tx i)
          rw [hP] at this ⊢
          exact this
        rw [decide_eq_true ((HOk.out i).2 hok)] at HVi
        have HNx : Hid (pagesB value first tx (i + 1) = pagesB value first tx i ++ [⟨5, first + i, tx, E⟩]) := by show _ = _; rw [pagesB_snoc, hP]
        have HI2 : Hid (first + ((i + 1 : Nat) : Int) ≤ 4000 ∧ 0 ≤ tx ∧ tx ≤ 1099511627776) := ⟨by omega, hok.2⟩
        obtain ⟨L, hL⟩ : ∃ L, L = pagesB value first tx i := ⟨_, rfl⟩
        have hLl : L.length = i := by rw [hL, pagesB_length]
        rw [← hL] at HS HNx
        clear hP hok HV HOk hL HBad HI hE HPt
        obtain ⟨va, vn, vc, rfl⟩ := owns_shape HS.out.row
        go_wp2_with (first
          | (go_at_call 18; (with_reducible refine (HP1.out _).mono ?_); rintro e w9 ⟨rfl, hb⟩; have S9 := Lib.hid (HS.out.over hb); clear hb HS)
          | (go_at_call 19; (with_reducible refine (HVi.out _).mono ?_); rintro e w2 ⟨rfl, hb⟩; have S2 := Lib.hid ((S9.out.over (below_new _ _)).over hb); obtain ⟨c0, c1, c2, c3⟩ := page_cells hb; clear hb)
          | (at_builtin; refine wpList_append_own _ rfl _ _ 23 rfl w.heap.size 33 i0 (Value.agg #[.int .i64 0, .int .i64 0, .int .i64 0, .string ⟨#[]⟩]) 4 40 Try.underlying23 hi0 hz0 hz1 hz2 rfl (by decide) _ L.length (cellsP L).flatten rfl (S2.out.row.alloc _) ⟨w2.heap.size, 0, none⟩ 1 1 [.int .i64 5, .int .i64 (first + i), .int .i64 tx, .string E] rfl rfl ?c1 ?c2 ?c3 ?c4 ?c5 ?_))
        case c1 => simpa using cells_new w2 [.int .i64 5, .int .i64 (first + i), .int .i64 tx, .string E] 33
        case c2 => exact kPages.one _ ⟨_, _, _, _, rfl⟩
        case c3 => unfold maxLen; omega
        case c4 => omega
        case c5 => have := S2.out.below.size; simp; omega
        intro v' w5 hown' hgrow _
        have S5 := Lib.hid ((S2.out.over (below_new _ _)).grown ⟨5, first + i, tx, E⟩ (by rw [hLl]; exact hown') hgrow)
        clear hown' hgrow
        go_wp2
        go_roundw
        case rel => exact ⟨i + 1, by omega, by go_num, .inr HI2.out, by rw [HNx.out]; exact S5⟩
        case measure => simp [RowKit.intOf]; omega
      · have HVi : Hid (∀ W, Calls Try.prog 19 #[.agg #[.int .i64 5, .int .i64 (first + i), .int .i64 tx, .string E]] W fun r w' => r = .returned (.bool (decide (pageB value first tx i).ok)) ∧ Below W.heap.size W w') := fun W => by
          have := HV.out W (pageB value first tx i)
          rw [hP] at this ⊢
          exact this
        rw [decide_eq_false (fun q => hok ((HOk.out i).1 q))] at HVi
        have HE := Lib.hid (HBad.out (fun q => hok ⟨by omega, q.2⟩))
        clear hP hok HV HOk HBad HGood HI hE HPt
        go_wp2_with (first
          | (go_at_call 18; (with_reducible refine (HP1.out _).mono ?_); rintro e w9 ⟨rfl, hb⟩; have S9 := Lib.hid (HS.out.over hb); clear hb HS)
          | (go_at_call 19; (with_reducible refine (HVi.out _).mono ?_); rintro e w2 ⟨rfl, hb⟩; have S2 := Lib.hid ((S9.out.over (below_new _ _)).over hb); clear hb))
        go_ret2
        exact ⟨_, by rw [HE.out]; rfl, by rw [HE.out]; exact OwnP.nil _ _, S2.out.below⟩
    · have e9 : i = N := by omega
      subst e9
      have k2 : decide ((i : Int) < (i : Int)) = false := decide_eq_false (by omega)
      have HE := Lib.hid (HGood.out (HI.out.resolve_left (by omega)))
      have hLl := pagesB_length value first tx i
      obtain ⟨va, vn, vc, rfl⟩ := owns_shape HS.out.row
      clear HV HOk HBad HGood HI
      go_wp2
      go_ret2
      exact ⟨_, by rw [HE.out]; rfl, by rw [HE.out]; exact HS.out.own (by omega), HS.out.below⟩

end Go.Proofs.Ytpbaodjmkdcihaa.P11
