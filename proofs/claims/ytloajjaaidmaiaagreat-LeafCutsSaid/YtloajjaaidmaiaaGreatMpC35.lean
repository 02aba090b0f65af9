/-
  Texts of the proof of SaidCuts9, side by side: LawCuts9.
-/
import Derived.Test.YtloajjaaidmaiaaGreatMpC28
import Derived.Test.YtloajjaaidmaiaaGreatMpC30
import Derived.Test.YtloajjaaidmaiaaGreatMpC34
/-
  P902: the walk of the statement LeafCuts.
-/
namespace Go.Proofs.YtloajjaaidmaiaaGreat.P9
open Go Go.RowKit Go.Lib Go.Proofs.YtloajjaaidmaiaaGreat.PK

theorem rcut_empty (w : World) (a : Option Addr) (c : Nat) :
    Calls Tryz.prog 26 #[.slice a 0 c] w fun e w' => e = .returned (.slice none 0 0) ∧ Below w.heap.size w w' := by
  go_enter Tryz.func26, Tryz.ntmps26
  go_wp2
  refine wp_loop_rounds 1 ?_
  rw [rounds_succ]
  go_wp2
  go_ret
  exact ⟨rfl, Below.refl _ _⟩
/-- the reference's parts: a row of pieces of the list, wherever it stands -/
theorem rcut_all (w : World) (v : Value) (l : List It) (P : List (List It)) (h : ItsIn w v l) (hw : Wide v) (hs : sumI l ≤ 1000000) (hC : Cuts l P) :
    Calls Tryz.prog 26 #[v] w fun e w' => ∃ ya yc vs, e = .returned (.slice ya P.length yc) ∧ vs.length = P.length ∧ (vRow kItems (.slice ya P.length yc) vs).At w' w.heap.size ∧ (∀ (i : Nat) (u : Value) (p : List It), vs[i]? = some u → P[i]? = some p → ∀ W, ItsIn W v l → ItsIn W u p) ∧ Below w.heap.size w w' := by
  obtain ⟨a, n, c, rfl, hc, hm⟩ := hw
  obtain rfl : n = l.length := by
    obtain ⟨_, _, e⟩ := h.slice
    simp only [Value.slice.injEq] at e
    exact e.2.1
  by_cases h0 : l = []
  · subst h0
    obtain rfl := hC.one Cuts.nil
    refine (rcut_empty w a c).mono ?_
    rintro e w' ⟨rfl, hb⟩
    exact ⟨none, 0, [], rfl, rfl, World.ownsRow_nil _ _ _ _, fun i u p hu => by simp at hu, hb⟩
  · cases a with
    | none =>
      obtain ⟨_, _, _, q⟩ := h.nil_ rfl
      exact absurd q h0
    | some A =>
      obtain ⟨b, off, rfl⟩ := h.addr (List.length_pos_iff.2 h0)
      refine (rcut_any w b off c l h hc hm hs).mono ?_
      rintro e w' ⟨v', P', rfl, hC', ⟨vs, h1, h2, h3⟩, hb⟩
      obtain rfl := hC.one hC'
      obtain ⟨ya, yc, rfl⟩ := len_owned h2
      refine ⟨ya, yc, vs, rfl, h1, ?_, h3, hb⟩
      show w'.ownsRow w.heap.size 22 1 (.slice ya P.length yc) vs.length vs
      rw [h1]
      exact h2
section
variable {a W : World} {b n m c : Nat} {T R : List Row} {us : List Value}
theorem BS.addr {x : Option Addr} (h : BS a b n T R W) (hx : vRow kItems (.slice x m c) us ∈ R) (hl : 0 < us.length) : ∃ g, x = some ⟨g, 0, none⟩ := by
  have h1 : W.ownsRow a.heap.size 22 1 (.slice x m c) us.length us := h.row hx
  obtain ⟨g, cap, e, _⟩ := owns_form h1 hl
  simp only [Value.slice.injEq] at e
  exact ⟨g, e.1⟩
theorem BS.cell {g : Nat} (h : BS a b n T R W) (hx : vRow kItems (.slice (some ⟨g, 0, none⟩) m c) us ∈ R) {i : Nat} {u : Value} (hu : us[i]? = some u) : W.cell? ⟨g, i, none⟩ = some u := by
  have h1 : W.ownsRow a.heap.size 22 1 (.slice (some ⟨g, 0, none⟩) m c) us.length us := h.row hx
  have h2 := h1.cells rfl i u hu
  rwa [Go.WideShapes.add_plain, Nat.zero_add] at h2
end
/-- the rows of the parts from i on -/
theorem rows_from {us : List Value} {P : List (List It)} {i : Nat} {u : Value} {p : List It} (hu : us[i]? = some u) (hp : P[i]? = some p) :
    rowsOf kItems (us.drop i) ((P.drop i).map cellsI) = tRow kItems u (cellsI p) :: rowsOf kItems (us.drop (i + 1)) ((P.drop (i + 1)).map cellsI) := by
  obtain ⟨h1, rfl⟩ := List.getElem?_eq_some_iff.1 hu
  obtain ⟨h2, rfl⟩ := List.getElem?_eq_some_iff.1 hp
  rw [List.drop_eq_getElem_cons h1, List.drop_eq_getElem_cons h2]
  rfl
theorem layR_fit {p : List It} (hr : RightI p) (hs : 1 + sumI p ≤ 232) : (layR p).2 = 0 := by
  unfold layR
  rw [if_pos hr, if_pos hs]

set_option maxRecDepth 100000 in
set_option maxHeartbeats 4000000 in
theorem cuts_walk (w : World) (v : Value) (l : List It) (hIW : ItsA w v l) :
    Calls Tryz.prog 5 #[v] w fun e w' => e = .returned (.bool true) ∧ Below w.heap.size w w' := by
  obtain ⟨hI, hw⟩ := hIW
  have HA := Lib.hid (fun w => alive_any w)
  have HLi := Lib.hid (light_any w v l hI)
  obtain ⟨d, hd⟩ : ∃ d : Bool, d = true ↔ RightI l := by
    by_cases q : RightI l
    · exact ⟨true, fun _ => q, fun _ => rfl⟩
    · exact ⟨false, fun h => (by cases h), fun h => absurd h q⟩
  have HI := Lib.hid hI
  have HW := Lib.hid hw
  have HD := Lib.hid hd
  obtain ⟨a0, c, rfl⟩ := hI.slice
  clear hI hw hd
  go_enter Tryz.func5, Tryz.ntmps5
  go_upto_region 1 with fail
  go_cut [17] from 11 to 17 (fun v W => ∃ b, v = .bool b ∧ Hid (b = false → LightI l) ∧ Hid (Below w.heap.size w W))
  case first =>
    go_wp2_with (first
      | (go_at_call 6; (with_reducible refine HLi.out.mono ?_); rintro e w2 ⟨⟨b1, rfl, h1⟩, hb⟩; have H1 := Lib.hid h1; have HB2 := Lib.hid hb; clear h1 hb)
      | (go_at_call 7; (with_reducible refine (HA.out _).mono ?_); rintro e w4 ⟨rfl, hb⟩; have HB4 := Lib.hid (thenBelow HB2.out hb); clear hb))
    all_goals
      go_meet
      first
        | exact ⟨true, rfl, Lib.hid (fun h => by cases h), HB2⟩
        | exact ⟨false, rfl, Lib.hid (fun _ => H1.out (by assumption)), HB4⟩
        | exact ⟨false, rfl, Lib.hid (fun _ => H1.out rfl), HB4⟩
  case rest =>
    obtain ⟨b, rfl, hOk, hB⟩ := hcut
    cases b with
    | true =>
      go_wp2_with (go_at_call 7; (with_reducible refine (HA.out _).mono ?_); rintro e w5 ⟨rfl, hb⟩; have HB5 := Lib.hid (thenBelow hB.out hb); clear hb)
      go_ret
      exact ⟨rfl, HB5.out⟩
    | false =>
      have hlo := hOk.out rfl
      have h300 := hlo.1
      have h6000 := hlo.2
      have HLe : Hid (∀ W, Below w.heap.size w W → Calls Tryz.prog 8 #[.slice a0 l.length c] W fun e w' => ∃ g q, e = .returned (.slice (some ⟨g, 0, none⟩) l.length q) ∧ LentT W.heap.size w' (.slice (some ⟨g, 0, none⟩) l.length q) l ∧ Below W.heap.size W w') := fun W hW => by
        refine (lent_row W _ l (HI.out.below hW) (by omega)).mono ?_
        rintro e w' ⟨g, q, rfl, h1, h2⟩
        exact ⟨g, q, rfl, lentT_of_row h1, h2⟩
      clear HLi hOk hlo HA
      go_upto_region 4 with (go_at_call 8; (with_reducible refine (HLe.out _ hB.out).mono ?_); rintro e w1 ⟨g, q, rfl, h1, hb⟩; have HT1 := Lib.hid h1; have HBw1 := Lib.hid (thenBelow hB.out hb); clear h1 hb)
      have HSt : Hid (∀ W, Below w1.heap.size w1 W → Calls Tryz.prog 17 #[.slice (some ⟨g, 0, none⟩) l.length q, .slice a0 l.length c] W fun e w' => e = .returned (.bool true) ∧ Below W.heap.size W w') := fun W hW => stays_any W _ _ l (HT1.out.below hW) (HI.out.below (thenBelow HBw1.out hW))
      have HRi : Hid (∀ W, Below w1.heap.size w1 W → Calls Tryz.prog 21 #[.slice a0 l.length c] W fun e w' => e = .returned (.bool d) ∧ Below W.heap.size W w') := fun W hW => right_d W _ l (HI.out.below (thenBelow HBw1.out hW)) d HD.out
      clear HLe hB
      cases d with
      | false =>
        have HCb : Hid (Calls Tryz.prog 25 #[.slice (some ⟨g, 0, none⟩) l.length q] w1 fun e w' => e = .returned (.tuple #[.slice none 0 0, .int .i64 1]) ∧ Below w1.heap.size w1 w') := cut_bad w1 _ l HT1.out.its (fun h => by have := HD.out.2 h; cases this)
        go_wp2_with (first
          | (go_at_call 25; (with_reducible refine (HCb.out).mono ?_); rintro e w2 ⟨rfl, hb⟩; have HB2 := Lib.hid hb; clear hb)
          | (go_at_call 21; (with_reducible refine (HRi.out _ HB2.out).mono ?_); rintro e w3 ⟨rfl, hb⟩; have HB3 := Lib.hid (thenBelow HB2.out hb); clear hb)
          | (go_at_call 17; (with_reducible refine (HSt.out _ HB3.out).mono ?_); rintro e w4 ⟨rfl, hb⟩; have HB4 := Lib.hid (thenBelow HBw1.out (thenBelow HB3.out hb)); clear hb))
        go_ret
        exact ⟨rfl, HB4.out⟩
      | true =>
        have hr := HD.out.1 rfl
        have HRl := Lib.hid hr
        have HCut : Hid (Calls Tryz.prog 25 #[.slice (some ⟨g, 0, none⟩) l.length q] w1 fun e w' => ∃ xa xc us P, e = .returned (.tuple #[.slice xa P.length xc, .int .i64 0]) ∧ Cuts l P ∧ us.length = P.length ∧ Rws w1 (vRow kItems (.slice xa P.length xc) us :: rowsOf kItems us (P.map cellsI)) w') := by
          obtain ⟨_, e1, e2, _⟩ := HT1.out.shape
          refine (cut_any w1 _ l HT1.out.its ⟨_, _, _, rfl, e1, e2⟩ (by omega) hr).mono ?_
          rintro e w' ⟨v, us, P, rfl, h1, h2⟩
          have hl := h2.1
          obtain ⟨xa, xc, e⟩ := len_owned h2.own
          rw [hl] at e
          subst e
          exact ⟨xa, xc, us, P, rfl, h1, hl, h2.2⟩
        have HWa : Hid (∀ W P, Below w1.heap.size w1 W → Cuts l P → Calls Tryz.prog 26 #[.slice a0 l.length c] W fun e w' => ∃ ya yc vs, e = .returned (.slice ya P.length yc) ∧ vs.length = P.length ∧ (vRow kItems (.slice ya P.length yc) vs).At w' W.heap.size ∧ (∀ (i : Nat) (u : Value) (p : List It), vs[i]? = some u → P[i]? = some p → ∀ W', ItsIn W' (.slice a0 l.length c) l → ItsIn W' u p) ∧ Below W.heap.size W w') := fun W P hW hC => rcut_all W _ l P (HI.out.below (thenBelow HBw1.out hW)) HW.out (by omega) hC
        clear hr HD HW
        go_upto_region 10 with (first
          | (go_at_call 25; (with_reducible refine (HCut.out).mono ?_); rintro e w2 ⟨xa, xc, us, P, rfl, hC, hl, hR⟩; have HC := Lib.hid hC; have HL := Lib.hid hl; have HR2 := Lib.hid hR; have q1 : ((P.length : Int) != (P.length : Int)) = false := (by simp); have q2 : (P.length != P.length) = false := (by simp); clear hC hl hR HCut)
          | (go_at_call 21; (with_reducible refine (HRi.out _ HR2.out.below).mono ?_); rintro e w3 ⟨rfl, hb⟩; have HR3 := Lib.hid (HR2.out.over hb); clear hb HR2)
          | (go_at_call 26; (with_reducible refine (HWa.out _ _ HR3.out.below HC.out).mono ?_); rintro e w4 ⟨ya, yc, vs, rfl, hl, hv, hp, hb⟩; have HL2 := Lib.hid hl; have HP2 := Lib.hid hp; have HR4 := Lib.hid (HR3.out.add hb hv); clear hl hv hp hb HR3))
        clear HWa HRi
        have hPn : P.length ≤ 60 := by
          have := cuts_len P l HC.out
          omega
        have HBk : Hid (BS w1 w4.heap.size 0 [] (vRow kItems (.slice ya P.length yc) vs :: vRow kItems (.slice xa P.length xc) us :: rowsOf kItems us (P.map cellsI)) (w4.alloc (.cells book0.toArray 36))) := BS.start HR4.out
        obtain ⟨bb, hbb⟩ : ∃ bb, bb = w4.heap.size := ⟨_, rfl⟩
        go_wp2
        rw [← hbb] at HBk ⊢
        clear hbb HR4
        go_loopw [8] (fun vi wr => ∃ i : Nat, i ≤ P.length ∧ vi = .int .i64 i ∧ Hid (∃ T, BS w1 bb i T (vRow kItems (.slice ya P.length yc) vs :: vRow kItems (.slice xa P.length xc) us :: rowsOf kItems (us.drop i) ((P.drop i).map cellsI)) wr)) (fun vi _ => P.length - (RowKit.intOf vi).toNat)
        case atStart => exact ⟨0, Nat.zero_le _, rfl, ⟨_, HBk.out⟩⟩
        case round =>
          clear HBk
          obtain ⟨i, hi, rfl, HS⟩ := hrel
          obtain ⟨T, hS⟩ := HS.out
          clear HS
          by_cases hlt : i < P.length
          · have hl1 := HL.out
            have hl2 := HL2.out
            obtain ⟨p, hp⟩ : ∃ p, P[i]? = some p := ⟨_, List.getElem?_eq_getElem hlt⟩
            obtain ⟨u, hu⟩ : ∃ u, us[i]? = some u := ⟨_, List.getElem?_eq_getElem (by omega)⟩
            obtain ⟨y, hy⟩ : ∃ y, vs[i]? = some y := ⟨_, List.getElem?_eq_getElem (by omega)⟩
            obtain ⟨gx, rfl⟩ := hS.addr (x := xa) (us := us) (m := P.length) (c := xc) (by simp) (by omega)
            obtain ⟨gw, rfl⟩ := hS.addr (x := ya) (us := vs) (m := P.length) (c := yc) (by simp) (by omega)
            have hmem := List.mem_of_getElem? hp
            obtain ⟨hp0, hpz⟩ := HC.out.each (fun x hx => HRl.out.ok hx) p hmem
            have hpl : p.length ≤ 300 := by have := HC.out.part_le hmem; omega
            have hpr := HC.out.part_right HRl.out hmem
            rw [rows_from hu hp] at hS
            obtain ⟨R1, hR1⟩ : ∃ R, R = rowsOf kItems (us.drop (i + 1)) ((P.drop (i + 1)).map cellsI) := ⟨_, rfl⟩
            rw [← hR1] at hS
            have HR1 := Lib.hid hR1
            have hO := hS.own (v := u) (l := p) (by simp) (by omega)
            obtain ⟨ua, uc, rfl⟩ := hO.its.slice
            have hYy : Hid (∀ W, Below w1.heap.size w1 W → ItsIn W y p) := fun W hW => HP2.out i y p hy hp W (HI.out.below (thenBelow HBw1.out hW))
            obtain ⟨yb, yd, rfl⟩ := (hYy.out w1 (Below.refl _ _)).slice
            have HXc : Hid (∀ n T R W, BS w1 bb n T (vRow kItems (.slice (some ⟨gw, 0, none⟩) P.length yc) vs :: vRow kItems (.slice (some ⟨gx, 0, none⟩) P.length xc) us :: R) W → W.cell? ⟨gx, i, none⟩ = some (.slice ua p.length uc) ∧ W.cell? ⟨gw, i, none⟩ = some (.slice yb p.length yd)) := fun n T R W h => ⟨h.cell (m := P.length) (c := xc) (us := us) (by simp) hu, h.cell (m := P.length) (c := yc) (us := vs) (by simp) hy⟩
            have HLy : Hid (∀ W, ItsIn W (.slice ua p.length uc) p → Calls Tryz.prog 9 #[.slice ua p.length uc] W fun e w' => e = .returned (.tuple #[.string (layR p).1, .int .i64 0]) ∧ Below W.heap.size W w') := fun W hW => by
              have := lay_any W _ p hW (by omega)
              rwa [layR_fit hpr hpz] at this
            obtain ⟨S, hSS⟩ : ∃ S, S = (layR p).1 := ⟨_, rfl⟩
            rw [← hSS] at HLy
            have HSa : Hid (∀ W, ItsIn W (.slice ua p.length uc) p → Below w1.heap.size w1 W → Calls Tryz.prog 14 #[.slice ua p.length uc, .slice yb p.length yd] W fun e w' => e = .returned (.bool true) ∧ Below W.heap.size W w') := fun W h1 h2 => same_its W _ _ p h1 (hYy.out W h2)
            have c1 := (HXc.out _ _ _ _ hS).1
            have HS0 := Lib.hid hS
            have k1 : decide ((i : Int) < (P.length : Int)) = true := decide_eq_true (by omega)
            have k1' : decide (i < P.length) = true := decide_eq_true hlt
            have k2 : (i : Int) < (P.length : Int) := by omega
            have k3 : (0 : Int) ≤ (i : Int) := by omega
            have hsw : ∀ (A B C : Row) (R : List Row), (A :: B :: C :: R).Perm (C :: A :: B :: R) := fun A B C R => ((List.Perm.swap C B R).cons A).trans (List.Perm.swap C A _)
            have HPm := Lib.hid hsw
            clear hS hSS hR1 hu hy hp hmem hpr hO hl1 hl2 hsw
            go_upto_region 16 with (first
              | (go_at_call 9; (with_reducible refine (HLy.out _ (HS0.out.own (by simp) (by omega)).its).mono ?_); rintro e w5 ⟨rfl, hb⟩; have HS1 := Lib.hid (HS0.out.over hb); have c2 := (HXc.out _ _ _ _ HS1.out).1; clear hb)
              | (go_at_call 13; (with_reducible refine ((HS1.out.perm (HPm.out _ _ _ _)).keep (by omega) (by omega) ⟨_, _, _, rfl⟩).mono ?_); rintro e w6 ⟨rfl, h1⟩; have HS2 := Lib.hid h1; clear h1))
            have HXY : Hid (∀ W, Below w6.heap.size w6 W → W.cell? ⟨gx, i, none⟩ = some (.slice ua p.length uc) ∧ W.cell? ⟨gw, i, none⟩ = some (.slice yb p.length yd)) := fun W hW => HXc.out _ _ _ _ (HS2.out.over hW)
            have HB6 := Lib.hid (Below.refl w6.heap.size w6)
            have HB6d := Lib.hid (HB6.out.drew)
            go_region_held3 (fun W => W.cell? ⟨gx, i, none⟩ = some (.slice ua p.length uc) ∧ W.cell? ⟨gw, i, none⟩ = some (.slice yb p.length yd)) (first | exact HXY.out _ HB6d.out | exact HXY.out _ HB6.out | exact HXY.out _ HB7.out) ((go_at_call 14; (with_reducible refine (HSa.out _ ((HS2.out.over HB6d.out).own2 (by simp) (by omega)).its (HS2.out.over HB6d.out).below).mono ?_); rintro e w7 ⟨rfl, hb⟩; have HB7 := Lib.hid (thenBelow HB6d.out hb); clear hb))
            all_goals
              go_wp2
              go_roundw
              case rel => exact ⟨i + 1, by omega, by go_num, ⟨_, by rw [← HR1.out]; exact HS2.out.over HB7.out⟩⟩
              case measure => simp [RowKit.intOf]; omega
          · have HS0 := Lib.hid hS
            have k1 : decide ((i : Int) < (P.length : Int)) = false := decide_eq_false (by omega)
            have k1' : decide (i < P.length) = false := decide_eq_false hlt
            clear hS
            go_wp2_with (first
              | (go_at_call 17; (with_reducible refine (HSt.out _ HS0.out.below).mono ?_); rintro e w8 ⟨rfl, hb⟩; have HS8 := Lib.hid (HS0.out.over hb); clear hb)
              | (go_at_call 20; (with_reducible refine (HS8.out.apart).mono ?_); rintro e w9 ⟨rfl, hb⟩; have HB9 := Lib.hid (thenBelow HBw1.out hb); clear hb))
            go_ret
            exact ⟨rfl, HB9.out⟩

end Go.Proofs.YtloajjaaidmaiaaGreat.P9
