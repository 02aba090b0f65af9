/-
  P901, P902: the walk of the statement LeafFits.
-/
import Derived.Test.YtloajjaaidmaiaaU10
import Derived.Test.YtloajjaaidmaiaaAl9
import Derived.Test.YtloajjaaidmaiaaV8
import Derived.Test.YtloajjaaidmaiaaArgs9
import Derived.Deep.CutRange
import Derived.Deep.CutBlock
namespace Go.Proofs.Ytloajjaaidmaiaa.P9
open Go Go.RowKit Go.Lib Go.Proofs.Ytloajjaaidmaiaa.PK

theorem right_d (w : World) (v : Value) (l : List It) (h : ItsIn w v l) (d : Bool) (hd : d = true ↔ RightI l) : Calls Try.prog 12 #[v] w fun e w' => e = .returned (.bool d) ∧ Below w.heap.size w w' := by
  refine (rright_any w v l h).mono ?_
  rintro e w' ⟨⟨b, rfl, hb⟩, k⟩
  refine ⟨?_, k⟩
  have : b = d := by
    rw [Bool.eq_iff_iff, hb, hd]
  rw [this]
theorem item_kept (w : World) (x : It) : ∀ W, Below (w.alloc (.cells #[.string x.key, .string x.val, .int .i64 x.kind] 29)).heap.size (w.alloc (.cells #[.string x.key, .string x.val, .int .i64 x.kind] 29)) W → ∀ (j : Nat) (u : Value), ([.string x.key, .string x.val, .int .i64 x.kind] : List Value)[j]? = some u → W.cell? ((⟨w.heap.size, 0, none⟩ : Addr).add j) = some u := fun W hW j u hu => by
  have h9 := cells_new w [.string x.key, .string x.val, .int .i64 x.kind] 29 j u hu
  rw [Go.WideShapes.add_plain, Nat.zero_add] at h9 ⊢
  exact (hW.cell (p := ⟨w.heap.size, j, none⟩) (by simp)).trans h9
/-- two operations that may come up: both orders -/
theorem do_two {P : Program} {ops : Array Oper} {Q : Exit → Act → World → Prop} {md : Region.Mode} {S : World → Prop} (i j : Nat) {oi oj : Oper} {ri rj : List Oper} {fuel : Nat} {listed : Array Bool} {a : Act} {w : World} (h0 : ops.toList.drop i = oi :: ri) (h1 : ops.toList.drop j = oj :: rj)
    (hr : Region.ready md ops listed = [i, j]) (hwi : Region.wanted oi (yielded ops a.tmps) = true) (hwj : Region.wanted oj (yielded ops a.tmps) = true)
    (hi : ∀ K' : Act → World → Prop, Hid (∀ a w, S w → (S w → wpAnyH P md ops Q S fuel (listed.setIfInBounds i true) a w) → K' a w) → Oper.wp P oi a w K' Q)
    (hj : ∀ K' : Act → World → Prop, Hid (∀ a w, S w → (S w → wpAnyH P md ops Q S fuel (listed.setIfInBounds j true) a w) → K' a w) → Oper.wp P oj a w K' Q) : wpAnyH P md ops Q S (fuel + 1) listed a w :=
  wpAnyH_ready hr (by simp) (AllReadyH.cons (op_at h0) (fun K' hK => by rw [if_pos hwi]; exact hi K' hK) (AllReadyH.cons (op_at h1) (fun K' hK => by rw [if_pos hwj]; exact hj K' hK) AllReadyH.nil))

/-- behind Cut -/
def FS (w W : World) (v : Value) (us : List Value) (P : List (List It)) : Prop := ∃ a, Below w.heap.size w a ∧ CutR a W v us P
theorem FS.over {w W W' : World} {v : Value} {us : List Value} {P : List (List It)} (h : FS w W v us P) (k : Below W.heap.size W W') : FS w W' v us P := by
  obtain ⟨a, h1, h2⟩ := h
  exact ⟨a, h1, h2.over k⟩
theorem FS.below {w W : World} {v : Value} {us : List Value} {P : List (List It)} (h : FS w W v us P) : Below w.heap.size w W := by
  obtain ⟨a, h1, h2⟩ := h
  exact thenBelow h1 h2.2.below
theorem FS.len {w W : World} {v : Value} {us : List Value} {P : List (List It)} (h : FS w W v us P) : us.length = P.length := by
  obtain ⟨a, h1, h2⟩ := h
  exact h2.1
theorem FS.shape {w W : World} {v : Value} {us : List Value} {P : List (List It)} (h : FS w W v us P) : ∃ a c, v = .slice a P.length c := by
  have hl := h.len
  obtain ⟨a, h1, h2⟩ := h
  obtain ⟨x, c, e⟩ := len_owned h2.own
  rw [hl] at e
  exact ⟨x, c, e⟩
/-- a part, where it stands -/
theorem FS.at_ {w W : World} {a : Option Addr} {n c : Nat} {us : List Value} {P : List (List It)} (h : FS w W (.slice a n c) us P) (hm : ∀ p ∈ P, p.length ≤ 1000000) {i : Nat} {p : List It} (hi : P[i]? = some p) :
    ∃ g, a = some ⟨g, 0, none⟩ ∧ ∃ pa pc, ∀ W', Below W.heap.size W W' → W'.cell? ⟨g, i, none⟩ = some (.slice pa p.length pc) ∧ ItsIn W' (.slice pa p.length pc) p := by
  have hl := h.len
  obtain ⟨w0, h1, h2⟩ := h
  have hlt := (List.getElem?_eq_some_iff.1 hi).1
  obtain ⟨u, hu⟩ : ∃ u, us[i]? = some u := ⟨_, List.getElem?_eq_getElem (by omega)⟩
  obtain ⟨g, cap, e, _, _, hg⟩ := owns_form h2.own (by omega)
  simp only [Value.slice.injEq] at e
  obtain ⟨rfl, _, rfl⟩ := e
  have hI := h2.part hu hi (hm p (List.mem_of_getElem? hi))
  obtain ⟨pa, pc, rfl⟩ := hI.slice
  refine ⟨g, rfl, pa, pc, fun W' hW => ⟨?_, hI.below hW⟩⟩
  have hcell := h2.own.cells rfl i _ hu
  rw [Go.WideShapes.add_plain, Nat.zero_add] at hcell
  exact (hW.cell (p := ⟨g, i, none⟩) hg).trans hcell

set_option maxRecDepth 100000 in
set_option maxHeartbeats 4000000 in
theorem fits_walk (w : World) (v : Value) (l : List It) (hIW : ItsA w v l) :
    Calls Try.prog 4 #[v] w fun e w' => e = .returned (.bool true) ∧ Below w.heap.size w w' := by
  have HA := Lib.hid (fun w => alive_any w)
  obtain ⟨hI, hw⟩ := hIW
  have HLi := Lib.hid (light_any w v l hI)
  obtain ⟨d, hd⟩ : ∃ d : Bool, d = true ↔ RightI l := by
    by_cases q : RightI l
    · exact ⟨true, fun _ => q, fun _ => rfl⟩
    · exact ⟨false, fun h => (by cases h), fun h => absurd h q⟩
  have HR := Lib.hid (fun W (hW : Below w.heap.size w W) => right_d W v l (hI.below hW) d hd)
  have HI := Lib.hid hI
  have HW := Lib.hid hw
  have HD := Lib.hid hd
  obtain ⟨a, c, rfl⟩ := hI.slice
  clear hI hw hd
  go_enter Try.func4, Try.ntmps4
  go_upto_region 1 with fail
  go_cut [18] from 7 to 18 (fun v W => ∃ b, v = .bool b ∧ Hid (b = false → LightI l ∧ d = true) ∧ Hid (Below w.heap.size w W))
  case first =>
    cases d
    all_goals
      go_wp2_with (first
        | (go_at_call 5; (with_reducible refine HLi.out.mono ?_); rintro e w2 ⟨⟨b1, rfl, h1⟩, hb⟩; have H1 := Lib.hid h1; have HB2 := Lib.hid hb; clear h1 hb)
        | (go_at_call 12; (with_reducible refine (HR.out _ HB2.out).mono ?_); rintro e w3 ⟨rfl, hb⟩; have HB3 := Lib.hid (thenBelow HB2.out hb); clear hb)
        | (go_at_call 7; (with_reducible refine (HA.out _).mono ?_); rintro e w4 ⟨rfl, hb⟩; have HB4 := Lib.hid (thenBelow HB3.out hb); clear hb))
    all_goals
      go_meet
      first
        | exact ⟨true, rfl, Lib.hid (fun h => by cases h), HB2⟩
        | exact ⟨true, rfl, Lib.hid (fun h => by cases h), HB3⟩
        | exact ⟨false, rfl, Lib.hid (fun _ => ⟨H1.out (by assumption), by trivial⟩), HB4⟩
        | exact ⟨false, rfl, Lib.hid (fun _ => ⟨H1.out rfl, by trivial⟩), HB4⟩
  case rest =>
    obtain ⟨b, rfl, hOk, hB⟩ := hcut
    cases b with
    | true =>
      go_wp2_with (go_at_call 7; (with_reducible refine (HA.out _).mono ?_); rintro e w5 ⟨rfl, hb⟩; have HB5 := Lib.hid (thenBelow hB.out hb); clear hb)
      go_ret
      exact ⟨rfl, HB5.out⟩
    | false =>
      obtain ⟨hlo, rfl⟩ := hOk.out rfl
      obtain ⟨i0, hi0, hz0, hz1, hz2⟩ := info_parts infoEItems
      have hr := HD.out.1 rfl
      have h300 := hlo.1
      have HSum := Lib.hid hlo.2
      have HRl := Lib.hid hr
      have HCut : Hid (∀ W, Below w.heap.size w W → Calls Try.prog 13 #[.slice a l.length c] W fun e w' => ∃ xa xc us P, e = .returned (.tuple #[.slice xa P.length xc, .int .i64 0]) ∧ Cuts l P ∧ FS w w' (.slice xa P.length xc) us P) := fun W hW => by
        refine (cut_any W _ l (HI.out.below hW) HW.out (by omega) hr).mono ?_
        rintro e w' ⟨v, us, P, rfl, h1, h2⟩
        have hF : FS w w' v us P := ⟨W, hW, h2⟩
        obtain ⟨xa, xc, rfl⟩ := hF.shape
        exact ⟨xa, xc, us, P, rfl, h1, hF⟩
      have HZl : Hid (∀ W, Below w.heap.size w W → Calls Try.prog 14 #[.slice a l.length c] W fun e w' => e = .returned (.int .i64 ((1 + sumI l : Nat) : Int)) ∧ Below W.heap.size W w') := fun W hW => size_any W _ l (HI.out.below hW) (by have := HSum.out; omega)
      clear HLi hOk hlo HA HR HD hr
      go_wp2_with (go_at_call 13; (with_reducible refine (HCut.out _ hB.out).mono ?_); rintro e w3 ⟨xa, xc, us, P, rfl, hC, hS⟩; have HC := Lib.hid hC; have HS3 := Lib.hid hS; clear hC hS)
      have hPn : P.length ≤ 300 := Nat.le_trans HC.out.count h300
      have HPm : Hid (∀ p ∈ P, p.length ≤ 1000000) := fun p hp => by
        have := HC.out.part_le hp
        omega
      have hfl : ∀ i, (P.take i).flatten.length ≤ 300 := fun i => by
        have h1 := congrArg List.length (congrArg List.flatten (List.take_append_drop i P))
        rw [List.flatten_append, List.length_append, HC.out.flat] at h1
        omega
      have HFl := Lib.hid hfl
      clear HCut hfl
      go_loopw [5, 6] (fun vn vi wr => ∃ i n : Nat, i ≤ P.length ∧ vi = .int .i64 i ∧ vn = .int .i64 n ∧ Hid (n = (P.take i).flatten.length) ∧ n ≤ 300 ∧ Hid (FS w wr (.slice xa P.length xc) us P)) (fun _ vi _ => P.length - (RowKit.intOf vi).toNat)
      case atStart => exact ⟨0, 0, Nat.zero_le _, rfl, rfl, (rfl : 0 = (P.take 0).flatten.length), Nat.zero_le _, HS3⟩
      case round =>
        clear HS3
        obtain ⟨i, n, hi, rfl, rfl, HN, hn9, HS⟩ := hrel
        by_cases hlt : i < P.length
        · obtain ⟨p, hp⟩ : ∃ p, P[i]? = some p := ⟨_, List.getElem?_eq_getElem hlt⟩
          obtain ⟨g, rfl, pa, pc, hcell⟩ := HS.out.at_ HPm.out hp
          have hmem := List.mem_of_getElem? hp
          obtain ⟨hp0, hpz⟩ := HC.out.each (fun x hx => HRl.out.ok hx) p hmem
          have hpl : p.length ≤ 300 := by have := HC.out.part_le hmem; omega
          have HCe := Lib.hid hcell
          have HBr := Lib.hid (Below.refl wr.heap.size wr)
          have HN2 : Hid (n + p.length = (P.take (i + 1)).flatten.length) := by
            show _ = _
            rw [List.take_add_one, hp, HN.out]
            simp
          have hb9 : n + p.length ≤ 300 := by rw [HN2.out]; exact HFl.out _
          have k1 : decide ((i : Int) < (P.length : Int)) = true := decide_eq_true (by omega)
          have k1' : decide (i < P.length) = true := decide_eq_true hlt
          have k2 : (i : Int) < (P.length : Int) := by omega
          have k3 : (0 : Int) ≤ (i : Int) := by omega
          have k4 : ((p.length : Int) == 0) = false := beq_eq_false_iff_ne.2 (by omega)
          have k4' : (p.length == 0) = false := beq_eq_false_iff_ne.2 (by omega)
          have HZ : Hid (∀ W, Below wr.heap.size wr W → Calls Try.prog 14 #[.slice pa p.length pc] W fun e w' => e = .returned (.int .i64 ((1 + sumI p : Nat) : Int)) ∧ Below W.heap.size W w') := fun W hW => size_any W _ p (hcell W hW).2 (by omega)
          have HPs : Hid (sumI p ≤ 231) := by show _ ≤ _; omega
          obtain ⟨z, hz⟩ : ∃ z, z = 1 + sumI p := ⟨_, rfl⟩
          rw [← hz] at HZ hpz
          have k5 : decide ((232 : Int) < (z : Int)) = false := decide_eq_false (by omega)
          have k5' : decide (232 < z) = false := decide_eq_false (by omega)
          have HP := Lib.hid hp
          obtain ⟨cP, hIn⟩ := hcell wr HBr.out
          have HIn := Lib.hid hIn
          clear hz hcell hmem hp hIn
          by_cases h0 : i = 0
          · have k6 : decide ((0 : Int) < (i : Int)) = false := decide_eq_false (by omega)
            have k6' : decide (0 < i) = false := decide_eq_false (by omega)
            clear h0
            go_upto_region 13 with (go_at_call 14; (with_reducible refine (HZ.out _ HBr.out).mono ?_); rintro e w4 ⟨rfl, hb⟩; have HB4 := Lib.hid hb; clear hb)
            go_quiet (fail)
            go_wp2
            go_roundw
            case rel => exact ⟨i + 1, n + p.length, by omega, by go_num, by go_num, HN2, hb9, HS.out.over (thenBelow HB4.out ⟨rfl, rfl, rfl, Nat.le_refl _, fun _ _ => rfl⟩)⟩
            case measure => simp [RowKit.intOf]; omega
          · obtain ⟨m, rfl⟩ : ∃ m, i = m + 1 := ⟨i - 1, by omega⟩
            obtain ⟨q, hq⟩ : ∃ q, P[m]? = some q := ⟨_, List.getElem?_eq_getElem (by omega)⟩
            obtain ⟨g2, e2, qa, qc, hcq⟩ := HS.out.at_ HPm.out hq
            simp only [Option.some.injEq, Addr.mk.injEq, and_true] at e2
            subst e2
            obtain ⟨x, hx⟩ : ∃ x, p[0]? = some x := ⟨_, List.getElem?_eq_getElem hp0⟩
            obtain ⟨pb, po, rfl, hcx⟩ := HIn.out.at_ hx
            have hnext := HC.out.next hq HP.out hx
            have hql : q.length ≤ 300 := by have := HC.out.part_le (List.mem_of_getElem? hq); omega
            have hqz := (HC.out.each (fun x hx => HRl.out.ok hx) q (List.mem_of_getElem? hq)).2
            have hxz := need_le hx
            have hps := HPs.out
            have HQ : Hid (∀ W, Below wr.heap.size wr W → ItsIn W (.slice qa q.length qc) q) := fun W hW => (hcq W hW).2
            have HSt : Hid (∀ W, Below wr.heap.size wr W → W.cell? ⟨g, m, none⟩ = some (.slice qa q.length qc) ∧ W.cell? ⟨g, m + 1, none⟩ = some (.slice (some ⟨pb, po, none⟩) p.length pc) ∧ W.cell? ⟨pb, po, none⟩ = some (.string x.key) ∧ W.cell? ⟨pb, po + 1, none⟩ = some (.string x.val) ∧ W.cell? ⟨pb, po + 2, none⟩ = some (.int .i64 x.kind)) := fun W hW =>
              ⟨(hcq W hW).1, (HCe.out W hW).1, by simpa using (hcx W hW).1, by simpa using (hcx W hW).2.1, by simpa using (hcx W hW).2.2⟩
            have HZ2 : Hid (∀ W u, OwnI wr.heap.size W u (q ++ [x]) → Calls Try.prog 14 #[u] W fun e w' => e = .returned (.int .i64 ((1 + sumI (q ++ [x]) : Nat) : Int)) ∧ Below W.heap.size W w') := fun W u hu => size_any W u _ hu.its (by rw [sumI_app, sumI_cons, sumI_nil]; omega)
            have hzq : 232 < 1 + sumI (q ++ [x]) := by rw [sumI_app, sumI_cons, sumI_nil]; omega
            obtain ⟨z2, hz3⟩ : ∃ z, z = 1 + sumI (q ++ [x]) := ⟨_, rfl⟩
            rw [← hz3] at HZ2 hzq
            have k6 : decide ((0 : Int) < ((m + 1 : Nat) : Int)) = true := decide_eq_true (by omega)
            have k6' : decide (0 < m + 1) = true := decide_eq_true (by omega)
            have k6'' : decide ((0 : Int) < (m : Int) + 1) = true := decide_eq_true (by omega)
            have k7 : decide ((z2 : Int) ≤ 232) = false := decide_eq_false (by omega)
            have k7' : decide (z2 ≤ 232) = false := decide_eq_false (by omega)
            have k8 : (m : Int) + 1 - 1 = (m : Int) := by omega
            have k9 : (m : Int) < (P.length : Int) := by omega
            have k10 : (0 : Int) ≤ (m : Int) := by omega
            have k11 : IntKind.i64.wrap (m : Int) = (m : Int) := by rw [IntKind.wrap_i64]; omega
            have k12 : (m : Int) + 1 < (P.length : Int) := by omega
            have k13 : (0 : Int) ≤ (m : Int) + 1 := by omega
            have k14 : decide ((m : Int) + 1 < (P.length : Int)) = true := decide_eq_true (by omega)
            have k15 : (0 : Int) < (p.length : Int) := by omega
            have k16 : m < P.length := by omega
            clear hcq hcx hx hq hnext hz3 h0 hxz hps
            go_upto_region 13 with (go_at_call 14; (with_reducible refine (HZ.out _ HBr.out).mono ?_); rintro e w4 ⟨rfl, hb⟩; have HB40 := Lib.hid hb; have HBd := Lib.hid (thenBelow HB40.out (Below.refl _ _).drew); have HBo := Lib.hid ((Below.refl (w4.alloc (.cells #[.string x.key, .string x.val, .int .i64 x.kind] 29)).heap.size (w4.alloc (.cells #[.string x.key, .string x.val, .int .i64 x.kind] 29))).drew); have HBw := Lib.hid (thenBelow (grow HB40.out (.cells #[.string x.key, .string x.val, .int .i64 x.kind] 29)) HBo.out); have HXb := Lib.hid (item_kept w4 x); clear hb)
            refine wp_region_held_drew (S := fun W => W.cell? ⟨g, m, none⟩ = some (.slice qa q.length qc) ∧ W.cell? ⟨g, m + 1, none⟩ = some (.slice (some ⟨pb, po, none⟩) p.length pc) ∧ W.cell? ⟨pb, po, none⟩ = some (.string x.key) ∧ W.cell? ⟨pb, po + 1, none⟩ = some (.string x.val) ∧ W.cell? ⟨pb, po + 2, none⟩ = some (.int .i64 x.kind)) (by kernel_rfl) (HSt.out _ HBd.out) (fun hHeld => ?_)
            refine take_w 0 rfl (by kernel_rfl) (by kernel_rfl) (by kernel_rfl) (fun _ _ _ h => h) (by rfl) (fun w hSw => by (try dsimp only at hSw); go_simp; try with_reducible rfl) (by assumption) ?_
            simp only [Act.put, List.setIfInBounds_toArray, List.set_cons_zero, List.set_cons_succ]
            refine take_w 1 rfl (by kernel_rfl) (by kernel_rfl) (by kernel_rfl) (fun _ _ _ h => h) (by rfl) (fun w hSw => by (try dsimp only at hSw); go_simp; try with_reducible rfl) (by assumption) ?_
            simp only [Act.put, List.setIfInBounds_toArray, List.set_cons_zero, List.set_cons_succ]
            refine take_w 2 rfl (by kernel_rfl) (by kernel_rfl) (by kernel_rfl) (fun _ _ _ h => h) (by rfl) (fun w hSw => by (try dsimp only at hSw); go_simp; try with_reducible rfl) (by assumption) ?_
            simp only [Act.put, List.setIfInBounds_toArray, List.set_cons_zero, List.set_cons_succ]
            refine take_w 3 rfl (by kernel_rfl) (by kernel_rfl) (by kernel_rfl) (fun _ _ _ h => h) (by rfl) (fun w hSw => by (try dsimp only at hSw); go_simp; try with_reducible rfl) (by assumption) ?_
            simp only [Act.put, List.setIfInBounds_toArray, List.set_cons_zero, List.set_cons_succ]
            refine take_w 4 rfl (by kernel_rfl) (by kernel_rfl) (by kernel_rfl) (fun _ _ _ h => h) (by rfl) (fun w hSw => by (try dsimp only at hSw); go_simp; try with_reducible rfl) (by assumption) ?_
            simp only [Act.put, List.setIfInBounds_toArray, List.set_cons_zero, List.set_cons_succ]
            refine take_w 5 rfl (by kernel_rfl) (by kernel_rfl) (by kernel_rfl) (fun _ _ _ h => h) (by rfl) (fun w hSw => by (try dsimp only at hSw); go_simp; try with_reducible rfl) (by assumption) ?_
            simp only [Act.put, List.setIfInBounds_toArray, List.set_cons_zero, List.set_cons_succ]
            refine take_w 6 rfl (by kernel_rfl) (by kernel_rfl) (by kernel_rfl) (fun _ _ _ h => h) (by rfl) (fun w hSw => by (try dsimp only at hSw); go_simp; try with_reducible rfl) (by assumption) ?_
            simp only [Act.put, List.setIfInBounds_toArray, List.set_cons_zero, List.set_cons_succ]
            refine take_w 7 rfl (by kernel_rfl) (by kernel_rfl) (by kernel_rfl) (fun _ _ _ h => h) (by rfl) (fun w hSw => by (try dsimp only at hSw); go_simp; try with_reducible rfl) (by assumption) ?_
            simp only [Act.put, List.setIfInBounds_toArray, List.set_cons_zero, List.set_cons_succ]
            refine take_w 9 rfl (by kernel_rfl) (by kernel_rfl) (by kernel_rfl) (fun _ _ _ h => h) (by rfl) (fun w hSw => by (try dsimp only at hSw); go_simp; try with_reducible rfl) (by assumption) ?_
            simp only [Act.put, List.setIfInBounds_toArray, List.set_cons_zero, List.set_cons_succ]
            refine take_w 10 rfl (by kernel_rfl) (by kernel_rfl) (by kernel_rfl) (fun _ _ _ h => h) (by rfl) (fun w hSw => by (try dsimp only at hSw); go_simp; try with_reducible rfl) (by assumption) ?_
            simp only [Act.put, List.setIfInBounds_toArray, List.set_cons_zero, List.set_cons_succ]
            refine take_w 11 rfl (by kernel_rfl) (by kernel_rfl) (by kernel_rfl) (fun _ _ _ h => h) (by rfl) (fun w hSw => by (try dsimp only at hSw); go_simp; try with_reducible rfl) (by assumption) ?_
            simp only [Act.put, List.setIfInBounds_toArray, List.set_cons_zero, List.set_cons_succ]
            refine take_w 12 rfl (by kernel_rfl) (by kernel_rfl) (by kernel_rfl) (fun _ _ _ h => h) (by rfl) (fun w hSw => by (try dsimp only at hSw); go_simp; try with_reducible rfl) (by assumption) ?_
            simp only [Act.put, List.setIfInBounds_toArray, List.set_cons_zero, List.set_cons_succ]
            refine take_w 13 rfl (by kernel_rfl) (by kernel_rfl) (by kernel_rfl) (fun _ _ _ h => h) (by rfl) (fun w hSw => by (try dsimp only at hSw); go_simp; try with_reducible rfl) (by assumption) ?_
            simp only [Act.put, List.setIfInBounds_toArray, List.set_cons_zero, List.set_cons_succ]
            refine take_w 14 rfl (by kernel_rfl) (by kernel_rfl) (by kernel_rfl) (fun _ _ _ h => h) (by rfl) (fun w hSw => by (try dsimp only at hSw); go_simp; try with_reducible rfl) (by assumption) ?_
            simp only [Act.put, List.setIfInBounds_toArray, List.set_cons_zero, List.set_cons_succ]
            refine do_two 8 15 rfl rfl (by kernel_rfl) (by rfl) (by rfl) (fun K hK => ?_) (fun K hK => ?_)
            · refine wp_app (.const (.slice none 0 0)) (.tmp 61) 22 rfl wr.heap.size 29 i0 (Value.agg #[.string ⟨#[]⟩, .string ⟨#[]⟩, .int .i64 0]) 3 40 Try.underlying22 hi0 hz0 hz1 hz2 rfl (by decide) (.slice none 0 0) 0 [] (by rfl) (World.ownsRow_nil _ _ _ _) qa q.length qc (cellsI q).flatten (by first | rfl | simp [Act.eval, Act.put]) (cellsI_flat q) (HQ.out _ HBd.out).news.1 (HQ.out _ HBd.out).news.2 (cellsI_one q) (by unfold maxLen; omega) (by omega) HBd.out.size ?_
              intro p1 s1 w2 hown2 hgrow2 hat2
              have HB2 : Hid (Below wr.heap.size wr w2) := grown_below HBd.out hgrow2 (by intro k hk; cases hk)
              have HO2 : Hid (w2.ownsRow wr.heap.size 29 3 (.slice p1 q.length s1) q.length (cellsI q).flatten) := (by rw [Nat.zero_add, List.nil_append] at hown2; exact hown2)
              rw [Nat.zero_add]
              clear hown2 hgrow2 hat2
              refine hK.out _ _ (HSt.out _ HB2.out) (fun hHeld => ?_)
              clear hK K
              try simp only [Act.put, List.setIfInBounds_toArray, List.set_cons_zero, List.set_cons_succ]
              refine do_one 15 rfl (by kernel_rfl) (by rfl) (fun K hK => ?_)
              go_simp
              have HB3 := Lib.hid (grow HB2.out (.cells #[.string x.key, .string x.val, .int .i64 x.kind] 29))
              refine hK.out _ _ (HSt.out _ HB3.out) (fun hHeld => ?_)
              clear hK K
              try simp only [Act.put, List.setIfInBounds_toArray, List.set_cons_zero, List.set_cons_succ]
              refine do_one 16 rfl (by kernel_rfl) (by rfl) (fun K hK => ?_)
              refine wp_app (.tmp 62) (.tmp 69) 22 rfl wr.heap.size 29 i0 (Value.agg #[.string ⟨#[]⟩, .string ⟨#[]⟩, .int .i64 0]) 3 40 Try.underlying22 hi0 hz0 hz1 hz2 rfl (by decide) (.slice p1 q.length s1) q.length (cellsI q).flatten (by first | rfl | simp [Act.eval, Act.put]) (owns_below HO2.out (below_new _ _)) (some ⟨w2.heap.size, 0, none⟩) 1 1 [.string x.key, .string x.val, .int .i64 x.kind] (by first | rfl | simp [Act.eval, Act.put]) rfl (by intro A hA j u hu; cases hA; exact cells_new w2 [.string x.key, .string x.val, .int .i64 x.kind] 29 j u hu) (by intro e; cases e) (kItems.one _ ⟨_, _, _, rfl⟩) (by unfold maxLen; omega) (by omega) HB3.out.size ?_
              intro p3 s3 w4 hown4 hgrow4 hat4
              have HB4 : Hid (Below wr.heap.size wr w4) := grown_below HB3.out hgrow4 (fun z e => (owned_at HO2.out e).1)
              have HO4 : Hid (OwnI wr.heap.size w4 (.slice p3 (q.length + 1) s3) (q ++ [x])) := ⟨by rw [cellsI_app, List.length_append]; exact hown4, by rw [List.length_append, List.length_singleton]; omega⟩
              clear hown4 hgrow4 hat4
              refine hK.out _ _ (HSt.out _ HB4.out) (fun hHeld => ?_)
              clear hK K
              try simp only [Act.put, List.setIfInBounds_toArray, List.set_cons_zero, List.set_cons_succ]
              refine do_one 17 rfl (by kernel_rfl) (by rfl) (fun K hK => ?_)
              go_simp
              go_at_call 14; (with_reducible refine (HZ2.out _ _ HO4.out).mono ?_); rintro e w5 ⟨rfl, hb⟩; have HB5 := Lib.hid (thenBelow HB4.out hb); clear hb
              go_wp2_with fail
              refine hK.out _ _ (HSt.out _ HB5.out) (fun hHeld => ?_)
              clear hK K
              try simp only [Act.put, List.setIfInBounds_toArray, List.set_cons_zero, List.set_cons_succ]
              refine take_w 18 rfl (by kernel_rfl) (by kernel_rfl) (by kernel_rfl) (fun _ _ _ h => h) (by rfl) (fun w hSw => by (try dsimp only at hSw); go_simp; try with_reducible rfl) (by assumption) ?_
              simp only [Act.put, List.setIfInBounds_toArray, List.set_cons_zero, List.set_cons_succ]
              refine take_w 19 rfl (by kernel_rfl) (by kernel_rfl) (by kernel_rfl) (fun _ _ _ h => h) (by rfl) (fun w hSw => by (try dsimp only at hSw); go_simp; try with_reducible rfl) (by assumption) ?_
              simp only [Act.put, List.setIfInBounds_toArray, List.set_cons_zero, List.set_cons_succ]
              refine wpAnyH_done (by kernel_rfl) ?_ _
              go_wp2
              go_roundw
              case rel => exact ⟨m + 1 + 1, n + p.length, by omega, by go_num, by go_num, HN2, hb9, HS.out.over HB5.out⟩
              case measure => simp [RowKit.intOf]; omega
            · go_simp
              refine hK.out _ _ (HSt.out _ HBw.out) (fun hHeld => ?_)
              clear hK K
              try simp only [Act.put, List.setIfInBounds_toArray, List.set_cons_zero, List.set_cons_succ]
              refine do_one 8 rfl (by kernel_rfl) (by rfl) (fun K hK => ?_)
              refine wp_app (.const (.slice none 0 0)) (.tmp 61) 22 rfl wr.heap.size 29 i0 (Value.agg #[.string ⟨#[]⟩, .string ⟨#[]⟩, .int .i64 0]) 3 40 Try.underlying22 hi0 hz0 hz1 hz2 rfl (by decide) (.slice none 0 0) 0 [] (by rfl) (World.ownsRow_nil _ _ _ _) qa q.length qc (cellsI q).flatten (by first | rfl | simp [Act.eval, Act.put]) (cellsI_flat q) (HQ.out _ HBw.out).news.1 (HQ.out _ HBw.out).news.2 (cellsI_one q) (by unfold maxLen; omega) (by omega) HBw.out.size ?_
              intro p1 s1 w2 hown2 hgrow2 hat2
              have HB2 : Hid (Below wr.heap.size wr w2) := grown_below HBw.out hgrow2 (by intro k hk; cases hk)
              have HO2 : Hid (w2.ownsRow wr.heap.size 29 3 (.slice p1 q.length s1) q.length (cellsI q).flatten) := (by rw [Nat.zero_add, List.nil_append] at hown2; exact hown2)
              rw [Nat.zero_add]
              have HX2 := Lib.hid (HXb.out w2 (thenBelow HBo.out ((Below.refl _ _).grown hgrow2 (Nat.le_refl _) (by intro k hk; cases hk))))
              clear hown2 hgrow2 hat2
              refine hK.out _ _ (HSt.out _ HB2.out) (fun hHeld => ?_)
              clear hK K
              try simp only [Act.put, List.setIfInBounds_toArray, List.set_cons_zero, List.set_cons_succ]
              refine do_one 16 rfl (by kernel_rfl) (by rfl) (fun K hK => ?_)
              refine wp_app (.tmp 62) (.tmp 69) 22 rfl wr.heap.size 29 i0 (Value.agg #[.string ⟨#[]⟩, .string ⟨#[]⟩, .int .i64 0]) 3 40 Try.underlying22 hi0 hz0 hz1 hz2 rfl (by decide) (.slice p1 q.length s1) q.length (cellsI q).flatten (by first | rfl | simp [Act.eval, Act.put]) HO2.out (some ⟨w4.heap.size, 0, none⟩) 1 1 [.string x.key, .string x.val, .int .i64 x.kind] (by first | rfl | simp [Act.eval, Act.put]) rfl (by intro A hA j u hu; cases hA; exact HX2.out j u hu) (by intro e; cases e) (kItems.one _ ⟨_, _, _, rfl⟩) (by unfold maxLen; omega) (by omega) HB2.out.size ?_
              intro p3 s3 w4 hown4 hgrow4 hat4
              have HB4 : Hid (Below wr.heap.size wr w4) := grown_below HB2.out hgrow4 (fun z e => (owned_at HO2.out e).1)
              have HO4 : Hid (OwnI wr.heap.size w4 (.slice p3 (q.length + 1) s3) (q ++ [x])) := ⟨by rw [cellsI_app, List.length_append]; exact hown4, by rw [List.length_append, List.length_singleton]; omega⟩
              clear hown4 hgrow4 hat4
              refine hK.out _ _ (HSt.out _ HB4.out) (fun hHeld => ?_)
              clear hK K
              try simp only [Act.put, List.setIfInBounds_toArray, List.set_cons_zero, List.set_cons_succ]
              refine do_one 17 rfl (by kernel_rfl) (by rfl) (fun K hK => ?_)
              go_simp
              go_at_call 14; (with_reducible refine (HZ2.out _ _ HO4.out).mono ?_); rintro e w5 ⟨rfl, hb⟩; have HB5 := Lib.hid (thenBelow HB4.out hb); clear hb
              go_wp2_with fail
              refine hK.out _ _ (HSt.out _ HB5.out) (fun hHeld => ?_)
              clear hK K
              try simp only [Act.put, List.setIfInBounds_toArray, List.set_cons_zero, List.set_cons_succ]
              refine take_w 18 rfl (by kernel_rfl) (by kernel_rfl) (by kernel_rfl) (fun _ _ _ h => h) (by rfl) (fun w hSw => by (try dsimp only at hSw); go_simp; try with_reducible rfl) (by assumption) ?_
              simp only [Act.put, List.setIfInBounds_toArray, List.set_cons_zero, List.set_cons_succ]
              refine take_w 19 rfl (by kernel_rfl) (by kernel_rfl) (by kernel_rfl) (fun _ _ _ h => h) (by rfl) (fun w hSw => by (try dsimp only at hSw); go_simp; try with_reducible rfl) (by assumption) ?_
              simp only [Act.put, List.setIfInBounds_toArray, List.set_cons_zero, List.set_cons_succ]
              refine wpAnyH_done (by kernel_rfl) ?_ _
              go_wp2
              go_roundw
              case rel => exact ⟨m + 1 + 1, n + p.length, by omega, by go_num, by go_num, HN2, hb9, HS.out.over HB5.out⟩
              case measure => simp [RowKit.intOf]; omega
        · have e : i = P.length := by omega
          subst e
          have HNl : Hid (n = l.length) := by
            show n = l.length
            rw [HN.out, List.take_length, HC.out.flat]
          have hnl := HNl.out
          have hS1 := HC.out.single (fun x hx => HRl.out.ok hx)
          have hkk : decide ((P.length : Int) < (P.length : Int)) = false := decide_eq_false (by omega)
          have hkk' : decide (P.length < P.length) = false := decide_eq_false (by omega)
          obtain ⟨d1, hd1⟩ : ∃ d, d = decide (P.length ≤ 1) := ⟨_, rfl⟩
          obtain ⟨d2, hd2⟩ : ∃ d, d = decide (1 + sumI l ≤ 232) := ⟨_, rfl⟩
          obtain ⟨d3, hd3⟩ : ∃ d, d = decide (l.length = 0) := ⟨_, rfl⟩
          have hdd : d1 = (d2 || d3) := by
            rw [hd1, hd2, hd3, Bool.eq_iff_iff, Bool.or_eq_true]
            simp only [decide_eq_true_eq]
            exact hS1
          have b1 : decide ((P.length : Int) ≤ 1) = d1 := by rw [hd1]; exact decide_eq_decide.2 (by omega)
          have b1' : decide (P.length ≤ 1) = d1 := hd1.symm
          have b3 : ((l.length : Int) == 0) = d3 := by
            rw [hd3, Bool.eq_iff_iff, beq_iff_eq, decide_eq_true_eq]
            omega
          obtain ⟨z, hz⟩ : ∃ z, z = 1 + sumI l := ⟨_, rfl⟩
          rw [← hz] at HZl hd2
          have b2 : decide ((z : Int) ≤ 232) = d2 := by rw [hd2]; exact decide_eq_decide.2 (by omega)
          have b2' : decide (z ≤ 232) = d2 := hd2.symm
          have HZw := Lib.hid (HZl.out _ HS.out.below)
          have bn : ((n : Int) == (l.length : Int)) = true := beq_iff_eq.2 (by omega)
          clear hd1 hd2 hd3 hS1 HFl HZl hz hnl hlt hi
          subst hdd
          cases d2 <;> cases d3
          all_goals
            simp only [Bool.or_true, Bool.or_false, Bool.true_or, Bool.false_or] at b1 b1'
            go_wp2_with (go_at_call 14; (with_reducible refine (HZw.out).mono ?_); rintro e w5 ⟨rfl, hb⟩; have HB5 := Lib.hid (thenBelow HS.out.below hb); clear hb)
            go_ret
            exact ⟨rfl, HB5.out⟩

end Go.Proofs.Ytloajjaaidmaiaa.P9
