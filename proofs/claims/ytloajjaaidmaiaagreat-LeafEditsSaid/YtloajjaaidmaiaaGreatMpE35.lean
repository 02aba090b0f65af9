/-
  Texts of the proof of SaidEdit9, side by side: LawEdit9.
-/
import Derived.Test.YtloajjaaidmaiaaGreatMpE28
import Derived.Test.YtloajjaaidmaiaaGreatMpE34
/-
  P902: the walk of the statement LeafEdits.
-/
namespace Go.Proofs.YtloajjaaidmaiaaGreat.P9
open Go Go.RowKit Go.Lib Go.Proofs.YtloajjaaidmaiaaGreat.PK
open Go.Proofs.YtloajjaaidmaiaaGreat.P0 (same_true same_false)

theorem hasK_at {l : List It} (hr : RightI l) {k : ByteArray} {x : It} (hx : l[lowK l k]? = some x) (d : Bool) (hd : d = true ↔ x.key = k) : hasK l k = d := by
  rw [Bool.eq_iff_iff, hd, hasK_iff]
  constructor
  · intro h
    obtain ⟨z, hz, hk⟩ := lowK_hit hr h
    rw [hx] at hz
    rw [Option.some.inj hz]
    exact hk
  · exact fun h => mem_of_low hx h
theorem hasK_end {l : List It} (hr : RightI l) {k : ByteArray} (hx : lowK l k = l.length) : hasK l k = false := by
  rw [hasK_not]
  intro h
  obtain ⟨z, hz, hk⟩ := lowK_hit hr h
  have := (List.getElem?_eq_some_iff.1 hz).1
  omega
theorem kb_low {l : List It} (hr : RightI l) {k : ByteArray} {i : Nat} {x : It} (hx : l[i]? = some x) : kb x.key k = decide (i < lowK l k) := by
  by_cases h : i < lowK l k
  · rw [decide_eq_true h]
    exact lowK_ahead h hx
  · rw [decide_eq_false h]
    exact lowK_behind hr (by omega) hx

/-- what three appends leave -/
theorem own_with {w : World} {lo j rn : Nat} {v : Value} {l D P : List It} {x : It} (hP : P = l.take j ++ [x] ++ D) (hr : rn = D.length) (hj : j ≤ l.length) (hn : l.length ≤ 300) (hown : w.ownsRow lo 50 3 v (j + 1 + rn) ((cellsI (l.take j)).flatten ++ [.string x.key, .string x.val, .int .i64 x.kind] ++ (cellsI D).flatten)) (hd : D.length ≤ 300 := by omega) : OwnI lo w v P := by
  subst hP hr
  have hl : (l.take j ++ [x] ++ D).length = j + 1 + D.length := by
    rw [List.length_append, List.length_append, List.length_take, List.length_singleton]
    omega
  refine ⟨?_, by rw [hl]; omega⟩
  rw [hl, cellsI_app, cellsI_app]
  exact hown
theorem own_without {w : World} {lo k : Nat} {v : Value} {l Q : List It} (hQ : Q = l.take k ++ l.drop (k + 1)) (hk : k < l.length) (hn : l.length ≤ 300) (hown : w.ownsRow lo 50 3 v (k + (l.length - (k + 1))) ((cellsI (l.take k)).flatten ++ (cellsI (l.drop (k + 1))).flatten)) : OwnI lo w v Q := by
  subst hQ
  have hl : (l.take k ++ l.drop (k + 1)).length = k + (l.length - (k + 1)) := by
    rw [List.length_append, List.length_take, List.length_drop]
    omega
  refine ⟨?_, by rw [hl]; omega⟩
  rw [hl, cellsI_app]
  exact hown
/-- a piece of a list, from the n-th on: its slice, wherever the list stands -/
theorem piece_end {w : World} {a : Option Addr} {c n : Nat} {l : List It} (h : ItsIn w (.slice a l.length c) l) (hn : l.length ≤ n) (a' : Option Addr) (c' : Nat) (ha : a' = none → c' = 0) : ItsIn w (.slice a' 0 c') (l.drop n) := by
  rw [List.drop_of_length_le hn]
  exact ⟨a', c', rfl, ha, by simp [cellsI], cellsI_ok _, fun h => absurd h (by simp [cellsI])⟩

set_option maxRecDepth 100000 in
set_option maxHeartbeats 4000000 in
theorem edits_walk (w : World) (v : Value) (l : List It) (hIW : ItsA w v l) (x : It) (key : ByteArray) :
    Calls Tryz.prog 4 #[v, x.v, .string key] w fun e w' => e = .returned (.bool true) ∧ Below w.heap.size w w' := by
  obtain ⟨hI, hWd⟩ := hIW
  have HA := Lib.hid (fun w => alive_any w)
  obtain ⟨d, hd⟩ : ∃ d : Bool, d = true ↔ RightI l := by
    by_cases q : RightI l
    · exact ⟨true, fun _ => q, fun _ => rfl⟩
    · exact ⟨false, fun h => (by cases h), fun h => absurd h q⟩
  obtain ⟨w0, hw0⟩ : ∃ w0, w0 = w.alloc (.cells #[.string x.key, .string x.val, .int .i64 x.kind] 50) := ⟨_, rfl⟩
  have HB0 : Hid (Below w.heap.size w w0) := by rw [hw0]; exact below_new _ _
  have HI0 : Hid (ItsIn w0 v l) := hI.below HB0.out
  have HLi := Lib.hid (light_any w0 v l HI0.out)
  have HR := Lib.hid (fun W (hW : Below w0.heap.size w0 W) => right_d W v l (HI0.out.below hW) d hd)
  have HD := Lib.hid hd
  have HCx : Hid (∀ W, Below w0.heap.size w0 W → W.cell? ⟨w.heap.size, 0, none⟩ = some (.string x.key) ∧ W.cell? ⟨w.heap.size, 1, none⟩ = some (.string x.val) ∧ W.cell? ⟨w.heap.size, 2, none⟩ = some (.int .i64 x.kind)) := fun W hW => by
    rw [hw0] at hW
    exact ⟨(hW.cell (p := ⟨w.heap.size, 0, none⟩) (by simp)).trans (by rw [cell_at (new_at w _ _)]; rfl), (hW.cell (p := ⟨w.heap.size, 1, none⟩) (by simp)).trans (by rw [cell_at (new_at w _ _)]; rfl), (hW.cell (p := ⟨w.heap.size, 2, none⟩) (by simp)).trans (by rw [cell_at (new_at w _ _)]; rfl)⟩
  obtain ⟨a0, c, rfl⟩ := hI.slice
  have HWc : Hid (l.length ≤ c ∧ c ≤ 9223372036854775807) := by
    obtain ⟨a', n', c', e, h1, h2⟩ := hWd
    simp only [Value.slice.injEq] at e
    obtain ⟨rfl, rfl, rfl⟩ := e
    exact ⟨h1, h2⟩
  unfold It.v
  clear hI hd hWd
  go_enter Tryz.func4, Tryz.ntmps4
  go_upto_region 1 with fail
  rw [← hw0]
  clear hw0
  go_cut [46] from 20 to 46 (fun v W => ∃ b, v = .bool b ∧ Hid (b = false → LightI l ∧ d = true) ∧ Hid (Below w0.heap.size w0 W))
  case first =>
    obtain ⟨d1, hd1⟩ : ∃ d, d = decide ((100 : Int) < (key.size : Int)) := ⟨_, rfl⟩
    obtain ⟨s2, hs2⟩ : ∃ s, s = IntKind.i64.wrap ((x.key.size : Int) + (x.val.size : Int)) := ⟨_, rfl⟩
    obtain ⟨d2, hd2⟩ : ∃ d, d = decide ((300 : Int) < s2) := ⟨_, rfl⟩
    have b1 : decide ((100 : Int) < (key.size : Int)) = d1 := hd1.symm
    have b1' : decide (100 < key.size) = d1 := by rw [hd1]; exact decide_eq_decide.2 (by omega)
    have b2 : decide ((300 : Int) < s2) = d2 := hd2.symm
    have hs3 := hs2.symm
    clear hd1 hd2 hs2
    cases d1 <;> cases d2 <;> cases d
    all_goals
      go_wp2_with (first
        | (go_at_call 6; (with_reducible refine HLi.out.mono ?_); rintro e w2 ⟨⟨b1, rfl, h1⟩, hb⟩; have H1 := Lib.hid h1; have HB2 := Lib.hid hb; clear h1 hb)
        | (go_at_call 21; (with_reducible refine (HR.out _ HB2.out).mono ?_); rintro e w3 ⟨rfl, hb⟩; have HB3 := Lib.hid (thenBelow HB2.out hb); obtain ⟨e0, e1, e2⟩ := HCx.out _ HB3.out; clear hb)
        | (go_at_call 7; (with_reducible refine (HA.out _).mono ?_); rintro e w4 ⟨rfl, hb⟩; have HB4 := Lib.hid (thenBelow HB3.out hb); clear hb))
    all_goals
      go_meet
      first
        | exact ⟨true, rfl, Lib.hid (fun h => by cases h), HB2⟩
        | exact ⟨true, rfl, Lib.hid (fun h => by cases h), HB3⟩
        | exact ⟨false, rfl, Lib.hid (fun _ => ⟨H1.out (by assumption), by trivial⟩), HB4⟩
        | exact ⟨false, rfl, Lib.hid (fun _ => ⟨H1.out rfl, by trivial⟩), HB4⟩
  case rest =>
    obtain ⟨b, rfl, hOk, hB⟩ := hcut
    cases b with
    | true =>
      go_wp2_with (go_at_call 7; (with_reducible refine (HA.out _).mono ?_); rintro e w5 ⟨rfl, hb⟩; have HB5 := Lib.hid (thenBelow HB0.out (thenBelow hB.out hb)); clear hb)
      go_ret
      exact ⟨rfl, HB5.out⟩
    | false =>
      obtain ⟨hlo, rfl⟩ := hOk.out rfl
      have h300 := hlo.1
      have hr := HD.out.1 rfl
      have HRi := Lib.hid hr
      have HIc : Hid (ItsIn wc (.slice a0 l.length c) l) := HI0.out.below hB.out
      have HCw : Hid (∀ (i : Nat) (y : It), l[i]? = some y → ∃ b off, a0 = some ⟨b, off, none⟩ ∧ ∀ W, Below wc.heap.size wc W → W.cell? ⟨b, off + i * 3, none⟩ = some (.string y.key) ∧ W.cell? ⟨b, off + i * 3 + 1, none⟩ = some (.string y.val) ∧ W.cell? ⟨b, off + i * 3 + 2, none⟩ = some (.int .i64 y.kind)) := fun i y hi => HIc.out.at_ hi
      have HCy : Hid (∀ W, Below wc.heap.size wc W → W.cell? ⟨w.heap.size, 0, none⟩ = some (.string x.key) ∧ W.cell? ⟨w.heap.size, 1, none⟩ = some (.string x.val) ∧ W.cell? ⟨w.heap.size, 2, none⟩ = some (.int .i64 x.kind)) := fun W hW => HCx.out W (thenBelow hB.out hW)
      have HBc : Hid (Below w.heap.size w wc) := thenBelow HB0.out hB.out
      obtain ⟨K, hK⟩ : ∃ K, K = lowK l key := ⟨_, rfl⟩
      have hKl := lowK_le l key
      rw [← hK] at hKl
      have HK := Lib.hid hK
      clear HLi HR HD HA HI0 HCx hOk hB hlo HB0 hK
      go_wp2
      go_loop [7] (fun vk => ∃ k : Nat, k ≤ K ∧ vk = .int .i64 k) (fun vk => K - (RowKit.intOf vk).toNat)
      case atStart => exact ⟨0, Nat.zero_le _, rfl⟩
      case round =>
        obtain ⟨k, hk, rfl⟩ := hrel
        go_upto_region 4 with fail
        go_cut [60] from 48 to 62 (fun v W => v = .bool (decide (k < K)) ∧ W = wc)
        case first =>
          by_cases hkl : k < l.length
          · obtain ⟨y, hy⟩ : ∃ x, l[k]? = some x := ⟨_, List.getElem?_eq_getElem hkl⟩
            obtain ⟨yb, yo, rfl, hc⟩ := HCw.out k y hy
            obtain ⟨c0, -, -⟩ := hc wc (Below.refl _ _)
            have hkb : Op.bytesLess y.key.toList key.toList = decide (k < K) := by rw [HK.out]; exact kb_low HRi.out hy
            have k1 : decide ((k : Int) < (l.length : Int)) = true := decide_eq_true (by omega)
            have k1' : decide (k < l.length) = true := decide_eq_true hkl
            have k2 : (k : Int) < (l.length : Int) := by omega
            have k3 : (0 : Int) ≤ (k : Int) := by omega
            clear hy hc
            generalize decide (k < K) = dk at *
            cases dk
            all_goals
              go_wp2
              go_meet
              exact ⟨rfl, rfl⟩
          · have k1 : decide ((k : Int) < (l.length : Int)) = false := decide_eq_false (by omega)
            have k1' : decide (k < l.length) = false := decide_eq_false hkl
            have HKb : Hid (decide (k < K) = false) := decide_eq_false (by omega)
            go_wp2
            go_meet
            exact ⟨congrArg Value.bool HKb.out.symm, rfl⟩
        case rest =>
          obtain ⟨rfl, rfl⟩ := hcut
          by_cases hkK : k < K
          · have q1 : decide (k < K) = true := decide_eq_true hkK
            rw [q1]
            clear q1
            go_wp2
            go_round
            case rel => exact ⟨k + 1, by omega, by go_num⟩
            case measure => simp [RowKit.intOf]; omega
          · have q1 : decide (k < K) = false := decide_eq_false hkK
            obtain rfl : k = K := by omega
            rw [q1]
            clear q1 hkK hk
            go_upto_region 6 with fail
            obtain ⟨h, hh⟩ : ∃ h, h = hasK l key := ⟨_, rfl⟩
            have HH := Lib.hid hh
            go_cut [8] from 63 to 75 (fun v W => v = .bool h ∧ W = wc)
            case first =>
              by_cases hkl : k < l.length
              · obtain ⟨y, hy⟩ : ∃ x, l[k]? = some x := ⟨_, List.getElem?_eq_getElem hkl⟩
                obtain ⟨yb, yo, rfl, hc⟩ := HCw.out k y hy
                obtain ⟨c0, -, -⟩ := hc wc (Below.refl _ _)
                have k1 : decide ((k : Int) < (l.length : Int)) = true := decide_eq_true (by omega)
                have k1' : decide (k < l.length) = true := decide_eq_true hkl
                have k2 : (k : Int) < (l.length : Int) := by omega
                have k3 : (0 : Int) ≤ (k : Int) := by omega
                obtain ⟨e, he⟩ : ∃ e, e = (y.key.toList == key.toList) := ⟨_, rfl⟩
                have HE : Hid (h = e) := by
                  show h = e
                  rw [hh]
                  refine hasK_at HRi.out (by rw [← HK.out]; exact hy) e ?_
                  rw [he]
                  by_cases q : y.key = key
                  · rw [same_true q]; simp [q]
                  · rw [same_false q]; simp [q]
                have he2 := he.symm
                clear hy hc he
                cases e
                all_goals
                  go_wp2
                  go_meet
                  exact ⟨congrArg Value.bool HE.out.symm, rfl⟩
              · have k1 : decide ((k : Int) < (l.length : Int)) = false := decide_eq_false (by omega)
                have k1' : decide (k < l.length) = false := decide_eq_false hkl
                have HE : Hid (h = false) := by
                  show h = false
                  rw [hh]
                  exact hasK_end HRi.out (by rw [← HK.out]; omega)
                go_wp2
                go_meet
                exact ⟨congrArg Value.bool HE.out.symm, rfl⟩
            case rest =>
              obtain ⟨rfl, rfl⟩ := hcut
              have HLe : Hid (Calls Tryz.prog 8 #[.slice a0 l.length c] wc fun e w' => ∃ g q, e = .returned (.slice (some ⟨g, 0, none⟩) l.length q) ∧ LentT wc.heap.size w' (.slice (some ⟨g, 0, none⟩) l.length q) l ∧ Below wc.heap.size wc w') := lent_any wc _ l HIc.out (by omega)
              have HFi : Hid (∀ W u, LentT wc.heap.size W u l → Calls Tryz.prog 22 #[u, .string key] W fun e w' => e = .returned (.tuple #[.int .i64 k, .bool h]) ∧ Below W.heap.size W w') := fun W u hu => by
                have := find_any W u l key hu.its (by omega) HRi.out
                rw [← HK.out, ← hh] at this
                exact this
              have HPu : Hid (∀ W u, LentT wc.heap.size W u l → Calls Tryz.prog 23 #[u, .agg #[.string x.key, .string x.val, .int .i64 x.kind]] W fun e w' => ∃ pa pn pc, e = .returned (.slice pa pn pc) ∧ (tRow kItems (.slice pa pn pc) (cellsI (putI l x))).At w' W.heap.size ∧ Below W.heap.size W w') := fun W u hu => by
                obtain ⟨g, q, rfl, -⟩ := id hu
                obtain ⟨-, h1, h2, -⟩ := hu.shape
                refine (put_any W _ l x hu.its ⟨_, _, _, rfl, h1, h2⟩ (fun A n c e => by cases e; exact ⟨g, 0, rfl⟩) (by omega) HRi.out).mono ?_
                rintro e w' ⟨v', rfl, h3, h4⟩
                obtain ⟨pa, pn, pc, rfl⟩ := owns_shape h3.1
                exact ⟨pa, pn, pc, rfl, h3.row, h4⟩
              have HDr : Hid (∀ W u, LentT wc.heap.size W u l → Calls Tryz.prog 24 #[u, .string key] W fun e w' => ∃ pa pn pc, e = .returned (.tuple #[.slice pa pn pc, .bool h]) ∧ (tRow kItems (.slice pa pn pc) (cellsI (dropI l key))).At w' W.heap.size ∧ Below W.heap.size W w') := fun W u hu => by
                obtain ⟨g, q, rfl, -⟩ := id hu
                obtain ⟨-, h1, h2, -⟩ := hu.shape
                refine (drop_any W _ l key hu.its ⟨_, _, _, rfl, h1, h2⟩ (by omega) HRi.out).mono ?_
                rintro e w' ⟨v', rfl, h3, h4⟩
                obtain ⟨pa, pn, pc, rfl⟩ := owns_shape h3.1
                exact ⟨pa, pn, pc, by rw [hh], h3.row, h4⟩
              obtain ⟨P, hP⟩ : ∃ P, P = putI l x := ⟨_, rfl⟩
              obtain ⟨Q, hQ⟩ : ∃ Q, Q = dropI l key := ⟨_, rfl⟩
              rw [← hP] at HPu
              rw [← hQ] at HDr
              have HPe := Lib.hid hP
              have HQe := Lib.hid hQ
              clear hP hQ hh
              go_upto_region 11 with (first
                | (go_at_call 8; (with_reducible refine (HLe.out).mono ?_); rintro e w1 ⟨g, q, rfl, h1, hb⟩; have HT1 := Lib.hid h1; have HB1 := Lib.hid hb; clear h1 hb)
                | (go_at_call 22; (with_reducible refine (HFi.out _ _ HT1.out).mono ?_); rintro e w2 ⟨rfl, hb⟩; have HB2 := Lib.hid hb; obtain ⟨c0, c1, c2⟩ := HCy.out w2 (thenBelow HB1.out hb); clear hb)
                | (go_at_call 23; (with_reducible refine (HPu.out _ _ (HT1.out.below HB2.out)).mono ?_); rintro e w3 ⟨pa, pn, pc, rfl, h1, hb⟩; have HR3 : Hid (Rws w1 [tRow kItems (.slice pa pn pc) (cellsI P)] w3) := (((Rws.nil w1).over HB2.out).add hb h1); clear h1 hb c0 c1 c2)
                | (go_at_call 24; (with_reducible refine (HDr.out _ _ (HT1.out.below HR3.out.below)).mono ?_); rintro e w4 ⟨qa, qn, qc, rfl, h1, hb⟩; have HR4 := Lib.hid (HR3.out.add hb h1); clear h1 hb))
              obtain ⟨R0, hR0⟩ : ∃ R0, R0 = [tRow kItems (.slice qa qn qc) (cellsI Q), tRow kItems (.slice pa pn pc) (cellsI P)] := ⟨_, rfl⟩
              rw [← hR0] at HR4
              have HR0 := Lib.hid hR0
              obtain ⟨J, hJ⟩ : ∃ J, J = lowK l x.key := ⟨_, rfl⟩
              have hJl := lowK_le l x.key
              rw [← hJ] at hJl
              have HJ := Lib.hid hJ
              have HI1 : Hid (∀ W, Below w1.heap.size w1 W → ItsIn W (.slice a0 l.length c) l) := fun W hW => HIc.out.below (thenBelow HB1.out hW)
              have HCw1 : Hid (∀ (i : Nat) (y : It), l[i]? = some y → ∃ b off, a0 = some ⟨b, off, none⟩ ∧ ∀ W, Below w1.heap.size w1 W → W.cell? ⟨b, off + i * 3, none⟩ = some (.string y.key) ∧ W.cell? ⟨b, off + i * 3 + 1, none⟩ = some (.string y.val) ∧ W.cell? ⟨b, off + i * 3 + 2, none⟩ = some (.int .i64 y.kind)) := fun i y hi => by
                obtain ⟨b, off, e, hh⟩ := HCw.out i y hi
                exact ⟨b, off, e, fun W hW => hh W (thenBelow HB1.out hW)⟩
              have HCx1 : Hid (∀ W, Below w1.heap.size w1 W → W.cell? ⟨w.heap.size, 0, none⟩ = some (.string x.key) ∧ W.cell? ⟨w.heap.size, 1, none⟩ = some (.string x.val) ∧ W.cell? ⟨w.heap.size, 2, none⟩ = some (.int .i64 x.kind)) := fun W hW => HCy.out W (thenBelow HB1.out hW)
              have HBw1 : Hid (Below w.heap.size w w1) := thenBelow HBc.out HB1.out
              clear hR0 hJ HIc HCw HCy HBc HB1 HB2 HR3 HLe HFi HPu HDr
              go_wp2
              go_loopw [15] (fun vj wr => ∃ j : Nat, j ≤ J ∧ vj = .int .i64 j ∧ Hid (Rws w1 R0 wr)) (fun vj _ => J - (RowKit.intOf vj).toNat)
              case atStart => exact ⟨0, Nat.zero_le _, rfl, HR4⟩
              case round =>
                clear HR4
                obtain ⟨j, hj, rfl, HRj⟩ := hrel
                go_upto_region 12 with fail
                go_cut [106] from 93 to 108 (fun v W => v = .bool (decide (j < J)) ∧ Hid (Rws w1 R0 W))
                case first =>
                  have HRd := Lib.hid (HRj.out.over (⟨rfl, rfl, rfl, Nat.le_refl _, fun _ _ => rfl⟩ : Below wr.heap.size wr wr.drew))
                  by_cases hkl : j < l.length
                  · obtain ⟨y, hy⟩ : ∃ x, l[j]? = some x := ⟨_, List.getElem?_eq_getElem hkl⟩
                    obtain ⟨yb, yo, rfl, hc⟩ := HCw1.out j y hy
                    obtain ⟨c0, -, -⟩ := hc wr HRj.out.below
                    have c1 := (HCx1.out wr HRj.out.below).1
                    have hkb : Op.bytesLess y.key.toList x.key.toList = decide (j < J) := by rw [HJ.out]; exact kb_low HRi.out hy
                    have k1 : decide ((j : Int) < (l.length : Int)) = true := decide_eq_true (by omega)
                    have k1' : decide (j < l.length) = true := decide_eq_true hkl
                    have k2 : (j : Int) < (l.length : Int) := by omega
                    have k3 : (0 : Int) ≤ (j : Int) := by omega
                    clear hy hc
                    generalize decide (j < J) = dk at *
                    cases dk
                    all_goals
                      go_quiet (fail)
                      go_wp2
                      go_meet
                      exact ⟨rfl, HRj.out.over ⟨rfl, rfl, rfl, Nat.le_refl _, fun _ _ => rfl⟩⟩
                  · have k1 : decide ((j : Int) < (l.length : Int)) = false := decide_eq_false (by omega)
                    have k1' : decide (j < l.length) = false := decide_eq_false hkl
                    have HKb : Hid (decide (j < J) = false) := decide_eq_false (by omega)
                    go_quiet (fail)
                    go_wp2
                    go_meet
                    exact ⟨congrArg Value.bool HKb.out.symm, HRj.out.over ⟨rfl, rfl, rfl, Nat.le_refl _, fun _ _ => rfl⟩⟩
                case rest =>
                  clear HRj
                  obtain ⟨rfl, HRj⟩ := hcut
                  by_cases hjJ : j < J
                  · have q1 : decide (j < J) = true := decide_eq_true hjJ
                    rw [q1]
                    clear q1
                    go_wp2
                    go_roundw
                    case rel => exact ⟨j + 1, by omega, by go_num, HRj⟩
                    case measure => simp [RowKit.intOf]; omega
                  · have q1 : decide (j < J) = false := decide_eq_false hjJ
                    obtain rfl : j = J := by omega
                    rw [q1]
                    clear q1 hjJ hj
                    go_upto_region 14 with fail
                    go_cut [16] from 109 to 111 (fun v W => ∃ ra rn rc, v = .slice ra rn rc ∧ Hid (∀ W, Below w1.heap.size w1 W → ItsIn W (.slice ra rn rc) (l.drop j)) ∧ W = wc)
                    case first =>
                      cases a0 with
                      | none =>
                        obtain ⟨-, -, hc0, hnil⟩ := (HI1.out w1 (Below.refl _ _)).nil_ rfl
                        subst hc0
                        subst hnil
                        have hj0 : j = 0 := by simpa using hJl
                        subst hj0
                        have HE : Hid (∀ W, Below w1.heap.size w1 W → ItsIn W (.slice none 0 0) (([] : List It).drop 0)) := HI1.out
                        go_wp2
                        go_meet
                        exact ⟨_, _, _, rfl, HE, rfl⟩
                      | some A =>
                        by_cases hl0 : l.length = 0
                        · have hj0 : j = 0 := by omega
                          have hnil := List.eq_nil_of_length_eq_zero hl0
                          subst hnil
                          subst hj0
                          have HE : Hid (∀ W (a' : Option Addr) (c' : Nat), Below w1.heap.size w1 W → (a' = none → c' = 0) → ItsIn W (.slice a' 0 c') (([] : List It).drop 0)) := fun W a' c' hW ha => piece_end (HI1.out W hW) (Nat.le_refl _) a' c' ha
                          go_wp2
                          go_meet
                          exact ⟨_, _, _, rfl, fun W hW => HE.out W _ _ hW (by first | (intro e; cases e; done) | (intro e; split at e <;> cases e)), rfl⟩
                        · obtain ⟨ab, ao, rfl⟩ := (HI1.out w1 (Below.refl _ _)).addr (by omega)
                          obtain ⟨hc1, hc2⟩ := HWc.out
                          have k1 : (j : Int) ≤ (l.length : Int) := by omega
                          have k2 : (0 : Int) ≤ (j : Int) := by omega
                          have k3 : (j : Int) ≤ (c : Int) := by omega
                          have k4 : (l.length : Int) ≤ (c : Int) := by omega
                          by_cases hcj : c = j
                          · have hnj : l.length = j := by omega
                            have HE : Hid (∀ W (a' : Option Addr) (c' : Nat), Below w1.heap.size w1 W → (a' = none → c' = 0) → ItsIn W (.slice a' 0 c') (l.drop j)) := fun W a' c' hW ha => piece_end (HI1.out W hW) (by omega) a' c' ha
                            have n1 : l.length - j = 0 := by omega
                            have n2 : c - j = 0 := by omega
                            have HCJ := Lib.hid hcj
                            clear hcj hnj
                            go_wp2
                            go_meet
                            exact ⟨_, _, _, rfl, fun W hW => HE.out W _ _ hW (by first | (intro e; cases e; done) | (intro e; split at e <;> cases e)), rfl⟩
                          · have HE : Hid (∀ W, Below w1.heap.size w1 W → ItsIn W (.slice (some ⟨ab, ao + j * 3, none⟩) (l.length - j : Nat) (c - j : Nat)) (l.drop j)) := fun W hW => (HI1.out W hW).drop hJl _
                            go_wp2
                            go_meet
                            exact ⟨_, _, _, rfl, HE, rfl⟩
                    case rest =>
                      obtain ⟨ra, rn, rc, rfl, HRest, rfl⟩ := hcut
                      obtain ⟨h2, hh2⟩ : ∃ h, h = hasK l x.key := ⟨_, rfl⟩
                      have HH2 := Lib.hid hh2
                      clear hh2
                      go_upto_region 15 with fail
                      go_cut [125] from 112 to 125 (fun v W => v = .bool h2 ∧ Hid (Rws w1 R0 W))
                      case first =>
                        by_cases hkl : j < l.length
                        · obtain ⟨y, hy⟩ : ∃ x, l[j]? = some x := ⟨_, List.getElem?_eq_getElem hkl⟩
                          obtain ⟨yb, yo, rfl, hc⟩ := HCw1.out j y hy
                          obtain ⟨c0, -, -⟩ := hc wc HRj.out.below
                          have c1 := (HCx1.out wc HRj.out.below).1
                          have k1 : decide ((j : Int) < (l.length : Int)) = true := decide_eq_true (by omega)
                          have k1' : decide (j < l.length) = true := decide_eq_true hkl
                          have k2 : (j : Int) < (l.length : Int) := by omega
                          have k3 : (0 : Int) ≤ (j : Int) := by omega
                          obtain ⟨e, he⟩ : ∃ e, e = (y.key.toList == x.key.toList) := ⟨_, rfl⟩
                          have HE : Hid (h2 = e) := by
                            show h2 = e
                            rw [HH2.out]
                            refine hasK_at HRi.out (by rw [← HJ.out]; exact hy) e ?_
                            rw [he]
                            by_cases q : y.key = x.key
                            · rw [same_true q]; simp [q]
                            · rw [same_false q]; simp [q]
                          have he2 := he.symm
                          clear hy hc he
                          cases e
                          all_goals
                            go_quiet (fail)
                            go_wp2
                            go_meet
                            exact ⟨congrArg Value.bool HE.out.symm, HRj.out.over ⟨rfl, rfl, rfl, Nat.le_refl _, fun _ _ => rfl⟩⟩
                        · have k1 : decide ((j : Int) < (l.length : Int)) = false := decide_eq_false (by omega)
                          have k1' : decide (j < l.length) = false := decide_eq_false hkl
                          have HE : Hid (h2 = false) := by
                            show h2 = false
                            rw [HH2.out]
                            exact hasK_end HRi.out (by rw [← HJ.out]; omega)
                          go_quiet (fail)
                          go_wp2
                          go_meet
                          exact ⟨congrArg Value.bool HE.out.symm, HRj.out.over ⟨rfl, rfl, rfl, Nat.le_refl _, fun _ _ => rfl⟩⟩
                      case rest =>
                        clear HRj
                        obtain ⟨rfl, HRj⟩ := hcut
                        go_upto_if 125 with fail
                        go_cut [16] from 126 to 129 (fun v W => ∃ ra rn rc, v = .slice ra rn rc ∧ Hid (∀ W, Below w1.heap.size w1 W → ItsIn W (.slice ra rn rc) (l.drop (if hasK l x.key = true then lowK l x.key + 1 else lowK l x.key))) ∧ W = wc)
                        case first =>
                          cases h2 with
                          | false =>
                            have HE : Hid (∀ W, Below w1.heap.size w1 W → ItsIn W (.slice ra rn rc) (l.drop (if hasK l x.key = true then lowK l x.key + 1 else lowK l x.key))) := fun W hW => by
                              rw [if_neg (by rw [← HH2.out]; simp), ← HJ.out]
                              exact HRest.out W hW
                            go_wp2
                            go_meet
                            exact ⟨_, _, _, rfl, HE, rfl⟩
                          | true =>
                            obtain ⟨y, hy, -⟩ := lowK_hit HRi.out (hasK_iff.1 HH2.out.symm)
                            rw [← HJ.out] at hy
                            have hkl := (List.getElem?_eq_some_iff.1 hy).1
                            obtain ⟨ab, ao, rfl, -⟩ := HCw1.out j y hy
                            obtain ⟨hc1, hc2⟩ := HWc.out
                            have k1 : (j : Int) + 1 ≤ (l.length : Int) := by omega
                            have k2 : (0 : Int) ≤ (j : Int) + 1 := by omega
                            have k3 : (j : Int) + 1 ≤ (c : Int) := by omega
                            have k4 : (l.length : Int) ≤ (c : Int) := by omega
                            have k5 : ((j : Int) + 1).toNat = j + 1 := by omega
                            have k6 : IntKind.i64.wrap ((j : Int) + 1) = (j : Int) + 1 := by rw [IntKind.wrap_i64]; omega
                            clear hy
                            by_cases hcj : c = j + 1
                            · have HE : Hid (∀ W (a' : Option Addr) (c' : Nat), Below w1.heap.size w1 W → (a' = none → c' = 0) → ItsIn W (.slice a' 0 c') (l.drop (if hasK l x.key = true then lowK l x.key + 1 else lowK l x.key))) := fun W a' c' hW ha => by
                                rw [if_pos HH2.out.symm, ← HJ.out]
                                exact piece_end (HI1.out W hW) (by omega) a' c' ha
                              have n1 : l.length - (j + 1) = 0 := by omega
                              have n2 : c - (j + 1) = 0 := by omega
                              have HCJ := Lib.hid hcj
                              clear hcj
                              go_wp2
                              go_meet
                              exact ⟨_, _, _, rfl, fun W hW => HE.out W _ _ hW (by first | (intro e; cases e; done) | (intro e; split at e <;> cases e)), rfl⟩
                            · have HE : Hid (∀ W, Below w1.heap.size w1 W → ItsIn W (.slice (some ⟨ab, ao + (j + 1) * 3, none⟩) (l.length - (j + 1) : Nat) (c - (j + 1) : Nat)) (l.drop (if hasK l x.key = true then lowK l x.key + 1 else lowK l x.key))) := fun W hW => by
                                rw [if_pos HH2.out.symm, ← HJ.out]
                                exact (HI1.out W hW).drop hkl _
                              go_wp2
                              go_meet
                              exact ⟨_, _, _, rfl, HE, rfl⟩
                        case rest =>
                          clear HRest
                          obtain ⟨ra, rn, rc, rfl, HRe, rfl⟩ := hcut
                          go_upto_region 17 with fail
                          obtain ⟨wS, hwS⟩ : ∃ wS, wS = wc := ⟨_, rfl⟩
                          rw [← hwS] at HRj ⊢
                          clear hwS
                          obtain ⟨i0, hi0, hz0, hz1, hz2⟩ := info_parts infoEItems
                          go_cut [17] from 130 to 138 (fun v W => ∃ ta tn tc, v = .slice ta tn tc ∧ Rws w1 (tRow kItems (.slice ta tn tc) (cellsI P) :: R0) W)
                          case first =>
                            have HRS := HRj
                            obtain ⟨DR, hDR⟩ : ∃ D, D = l.drop (if hasK l x.key = true then lowK l x.key + 1 else lowK l x.key) := ⟨_, rfl⟩
                            have HPd : Hid (P = l.take j ++ [x] ++ DR) := by
                              show P = _
                              rw [HPe.out, hDR, HJ.out]
                              rfl
                            rw [← hDR] at HRe
                            have hDl : DR.length ≤ l.length := by rw [hDR, List.length_drop]; omega
                            have HRn : Hid (rn = DR.length) := by
                              obtain ⟨_, _, e⟩ := (HRe.out w1 (Below.refl _ _)).slice
                              simp only [Value.slice.injEq] at e
                              exact e.2.1
                            have hrn := HRn.out
                            replace HRe : Hid (∀ W, Below wS.heap.size wS W → ItsIn W (.slice ra rn rc) DR) := fun W hW => HRe.out W (thenBelow HRS.out.below hW)
                            have HTk : Hid (∀ W, Below wS.heap.size wS W → ItsIn W (.slice a0 j c) (l.take j)) := fun W hW => (HI1.out W (thenBelow HRS.out.below hW)).take hJl
                            have HCS : Hid (∀ W, Below wS.heap.size wS W → W.cell? ⟨w.heap.size, 0, none⟩ = some (.string x.key) ∧ W.cell? ⟨w.heap.size, 1, none⟩ = some (.string x.val) ∧ W.cell? ⟨w.heap.size, 2, none⟩ = some (.int .i64 x.kind)) := fun W hW => HCx1.out W (thenBelow HRS.out.below hW)
                            have HBd := Lib.hid ((Below.refl wS.heap.size wS).drew)
                            have HBo := Lib.hid ((Below.refl (wS.alloc (.cells #[.string x.key, .string x.val, .int .i64 x.kind] 50)).heap.size (wS.alloc (.cells #[.string x.key, .string x.val, .int .i64 x.kind] 50))).drew)
                            have HBw : Hid (Below wS.heap.size wS (wS.alloc (.cells #[.string x.key, .string x.val, .int .i64 x.kind] 50)).drew) := thenBelow (below_new _ _) HBo.out
                            have HXb := Lib.hid (item_kept wS x)
                            obtain ⟨hc1, hc2⟩ := HWc.out
                            have k1 : (j : Int) ≤ (l.length : Int) := by omega
                            have k2 : (0 : Int) ≤ (j : Int) := by omega
                            have k3 : (j : Int) ≤ (c : Int) := by omega
                            have k4 : (l.length : Int) ≤ (c : Int) := by omega
                            have hrn3 : rn ≤ 300 := by omega
                            clear hDR hrn
                            refine wp_region_held_drew (S := fun W => W.cell? ⟨w.heap.size, 0, none⟩ = some (.string x.key) ∧ W.cell? ⟨w.heap.size, 1, none⟩ = some (.string x.val) ∧ W.cell? ⟨w.heap.size, 2, none⟩ = some (.int .i64 x.kind)) (by kernel_rfl) (HCS.out _ HBd.out) (fun hHeld => ?_)
                            refine take_w 0 rfl (by kernel_rfl) (by kernel_rfl) (by kernel_rfl) (fun _ _ _ h => h) (by rfl) (fun w hSw => by (try dsimp only at hSw); go_simp; try with_reducible rfl) (by assumption) ?_
                            simp only [Act.put, List.setIfInBounds_toArray, List.set_cons_zero, List.set_cons_succ]
                            refine take_w 1 rfl (by kernel_rfl) (by kernel_rfl) (by kernel_rfl) (fun _ _ _ h => h) (by rfl) (fun w hSw => by (try dsimp only at hSw); go_simp; try with_reducible rfl) (by assumption) ?_
                            simp only [Act.put, List.setIfInBounds_toArray, List.set_cons_zero, List.set_cons_succ]
                            refine take_w 2 rfl (by kernel_rfl) (by kernel_rfl) (by kernel_rfl) (fun _ _ _ h => h) (by rfl) (fun w hSw => by (try dsimp only at hSw); go_simp; try with_reducible rfl) (by assumption) ?_
                            simp only [Act.put, List.setIfInBounds_toArray, List.set_cons_zero, List.set_cons_succ]
                            refine take_w 4 rfl (by kernel_rfl) (by kernel_rfl) (by kernel_rfl) (fun _ _ _ h => h) (by rfl) (fun w hSw => by (try dsimp only at hSw); go_simp; try with_reducible rfl) (by assumption) ?_
                            simp only [Act.put, List.setIfInBounds_toArray, List.set_cons_zero, List.set_cons_succ]
                            refine take_w 7 rfl (by kernel_rfl) (by kernel_rfl) (by kernel_rfl) (fun _ _ _ h => h) (by rfl) (fun w hSw => by (try dsimp only at hSw); go_simp; try with_reducible rfl) (by assumption) ?_
                            simp only [Act.put, List.setIfInBounds_toArray, List.set_cons_zero, List.set_cons_succ]
                            refine do_two 3 5 rfl rfl (by kernel_rfl) (by rfl) (by rfl) (fun K hK => ?_) (fun K hK => ?_)
                            · refine wp_app (.const (.slice none 0 0)) (.tmp 132) 22 rfl wS.heap.size 50 i0 (Value.agg #[.string ⟨#[]⟩, .string ⟨#[]⟩, .int .i64 0]) 3 40 Tryz.underlying22 hi0 hz0 hz1 hz2 rfl (by decide) (.slice none 0 0) 0 [] (by rfl) (World.ownsRow_nil _ _ _ _) a0 j c (cellsI (l.take j)).flatten (by first | rfl | simp [Act.eval, Act.put]) (by rw [cellsI_flat, List.length_take, Nat.min_eq_left (by omega)]) (HTk.out _ HBd.out).news.1 (fun q => by have h9 := (HTk.out _ HBd.out).news.2 q; rw [List.length_take, Nat.min_eq_left (by omega)] at h9; exact h9) (cellsI_one _) (by unfold maxLen; omega) (by omega) HBd.out.size ?_
                              intro p1 s1 w2 hown2 hgrow2 hat2
                              have HB2 : Hid (Below wS.heap.size wS w2) := grown_below HBd.out hgrow2 (by intro k hk; cases hk)
                              have HO2 : Hid (w2.ownsRow wS.heap.size 50 3 (.slice p1 j s1) j (cellsI (l.take j)).flatten) := (by rw [Nat.zero_add, List.nil_append] at hown2; exact hown2)
                              rw [Nat.zero_add]
                              clear hown2 hgrow2 hat2
                              refine hK.out _ _ (HCS.out _ HB2.out) (fun hHeld => ?_)
                              clear hK K
                              try simp only [Act.put, List.setIfInBounds_toArray, List.set_cons_zero, List.set_cons_succ]
                              refine do_one 5 rfl (by kernel_rfl) (by rfl) (fun K hK => ?_)
                              go_simp
                              have HB3 := Lib.hid (grow HB2.out (.cells #[.string x.key, .string x.val, .int .i64 x.kind] 50))
                              refine hK.out _ _ (HCS.out _ HB3.out) (fun hHeld => ?_)
                              clear hK K
                              try simp only [Act.put, List.setIfInBounds_toArray, List.set_cons_zero, List.set_cons_succ]
                              refine do_one 6 rfl (by kernel_rfl) (by rfl) (fun K hK => ?_)
                              refine wp_app (.tmp 133) (.tmp 135) 22 rfl wS.heap.size 50 i0 (Value.agg #[.string ⟨#[]⟩, .string ⟨#[]⟩, .int .i64 0]) 3 40 Tryz.underlying22 hi0 hz0 hz1 hz2 rfl (by decide) (.slice p1 j s1) j (cellsI (l.take j)).flatten (by first | rfl | simp [Act.eval, Act.put]) (owns_below HO2.out (below_new _ _)) (some ⟨w2.heap.size, 0, none⟩) 1 1 [.string x.key, .string x.val, .int .i64 x.kind] (by first | rfl | simp [Act.eval, Act.put]) rfl (by intro A hA j u hu; cases hA; exact cells_new w2 [.string x.key, .string x.val, .int .i64 x.kind] 50 j u hu) (by intro e; cases e) (kItems.one _ ⟨_, _, _, rfl⟩) (by unfold maxLen; omega) (by omega) HB3.out.size ?_
                              intro p3 s3 w4 hown4 hgrow4 hat4
                              have HB4 : Hid (Below wS.heap.size wS w4) := grown_below HB3.out hgrow4 (fun z e => (owned_at HO2.out e).1)
                              have HO4 := Lib.hid hown4
                              clear hown4 hgrow4 hat4
                              refine hK.out _ _ (HCS.out _ HB4.out) (fun hHeld => ?_)
                              clear hK K
                              try simp only [Act.put, List.setIfInBounds_toArray, List.set_cons_zero, List.set_cons_succ]
                              refine do_one 8 rfl (by kernel_rfl) (by rfl) (fun K hK => ?_)
                              refine wp_app (.tmp 136) (.tmp 137) 22 rfl wS.heap.size 50 i0 (Value.agg #[.string ⟨#[]⟩, .string ⟨#[]⟩, .int .i64 0]) 3 40 Tryz.underlying22 hi0 hz0 hz1 hz2 rfl (by decide) (.slice p3 (j + 1 : Nat) s3) (j + 1) ((cellsI (l.take j)).flatten ++ [.string x.key, .string x.val, .int .i64 x.kind]) (by first | rfl | simp [Act.eval, Act.put]) HO4.out ra rn rc (cellsI DR).flatten (by first | rfl | simp [Act.eval, Act.put]) (by rw [cellsI_flat, HRn.out]) (HRe.out _ HB4.out).news.1 (fun q => by have h9 := (HRe.out _ HB4.out).news.2 q; exact ⟨HRn.out.trans h9.1, h9.2⟩) (cellsI_one _) (by unfold maxLen; omega) (by omega) HB4.out.size ?_
                              intro p5 s5 w5 hown5 hgrow5 hat5
                              have HB5 : Hid (Below wS.heap.size wS w5) := grown_below HB4.out hgrow5 (fun z e => (owned_at HO4.out e).1)
                              have HO5 : Hid (OwnI wS.heap.size w5 (.slice p5 (j + 1 + rn : Nat) s5) P) := own_with HPd.out HRn.out hJl (by omega) hown5
                              clear hown5 hgrow5 hat5
                              refine hK.out _ _ (HCS.out _ HB5.out) (fun hHeld => ?_)
                              clear hK K
                              try simp only [Act.put, List.setIfInBounds_toArray, List.set_cons_zero, List.set_cons_succ]
                              refine take_w 9 rfl (by kernel_rfl) (by kernel_rfl) (by kernel_rfl) (fun _ _ _ h => h) (by rfl) (fun w hSw => by (try dsimp only at hSw); go_simp; try with_reducible rfl) (by assumption) ?_
                              simp only [Act.put, List.setIfInBounds_toArray, List.set_cons_zero, List.set_cons_succ]
                              refine wpAnyH_done (by kernel_rfl) ?_ _
                              go_wp2
                              go_meet
                              exact ⟨_, _, _, rfl, HRS.out.add HB5.out HO5.out.row⟩
                            · go_simp
                              refine hK.out _ _ (HCS.out _ HBw.out) (fun hHeld => ?_)
                              clear hK K
                              try simp only [Act.put, List.setIfInBounds_toArray, List.set_cons_zero, List.set_cons_succ]
                              refine do_one 3 rfl (by kernel_rfl) (by rfl) (fun K hK => ?_)
                              refine wp_app (.const (.slice none 0 0)) (.tmp 132) 22 rfl wS.heap.size 50 i0 (Value.agg #[.string ⟨#[]⟩, .string ⟨#[]⟩, .int .i64 0]) 3 40 Tryz.underlying22 hi0 hz0 hz1 hz2 rfl (by decide) (.slice none 0 0) 0 [] (by rfl) (World.ownsRow_nil _ _ _ _) a0 j c (cellsI (l.take j)).flatten (by first | rfl | simp [Act.eval, Act.put]) (by rw [cellsI_flat, List.length_take, Nat.min_eq_left (by omega)]) (HTk.out _ HBw.out).news.1 (fun q => by have h9 := (HTk.out _ HBw.out).news.2 q; rw [List.length_take, Nat.min_eq_left (by omega)] at h9; exact h9) (cellsI_one _) (by unfold maxLen; omega) (by omega) HBw.out.size ?_
                              intro p1 s1 w2 hown2 hgrow2 hat2
                              have HB2 : Hid (Below wS.heap.size wS w2) := grown_below HBw.out hgrow2 (by intro k hk; cases hk)
                              have HO2 : Hid (w2.ownsRow wS.heap.size 50 3 (.slice p1 j s1) j (cellsI (l.take j)).flatten) := (by rw [Nat.zero_add, List.nil_append] at hown2; exact hown2)
                              rw [Nat.zero_add]
                              have HX2 := Lib.hid (HXb.out w2 (thenBelow HBo.out ((Below.refl _ _).grown hgrow2 (Nat.le_refl _) (by intro k hk; cases hk))))
                              clear hown2 hgrow2 hat2
                              refine hK.out _ _ (HCS.out _ HB2.out) (fun hHeld => ?_)
                              clear hK K
                              try simp only [Act.put, List.setIfInBounds_toArray, List.set_cons_zero, List.set_cons_succ]
                              refine do_one 6 rfl (by kernel_rfl) (by rfl) (fun K hK => ?_)
                              refine wp_app (.tmp 133) (.tmp 135) 22 rfl wS.heap.size 50 i0 (Value.agg #[.string ⟨#[]⟩, .string ⟨#[]⟩, .int .i64 0]) 3 40 Tryz.underlying22 hi0 hz0 hz1 hz2 rfl (by decide) (.slice p1 j s1) j (cellsI (l.take j)).flatten (by first | rfl | simp [Act.eval, Act.put]) HO2.out (some ⟨wS.heap.size, 0, none⟩) 1 1 [.string x.key, .string x.val, .int .i64 x.kind] (by first | rfl | simp [Act.eval, Act.put]) rfl (by intro A hA j u hu; cases hA; exact HX2.out j u hu) (by intro e; cases e) (kItems.one _ ⟨_, _, _, rfl⟩) (by unfold maxLen; omega) (by omega) HB2.out.size ?_
                              intro p3 s3 w4 hown4 hgrow4 hat4
                              have HB4 : Hid (Below wS.heap.size wS w4) := grown_below HB2.out hgrow4 (fun z e => (owned_at HO2.out e).1)
                              have HO4 := Lib.hid hown4
                              clear hown4 hgrow4 hat4
                              refine hK.out _ _ (HCS.out _ HB4.out) (fun hHeld => ?_)
                              clear hK K
                              try simp only [Act.put, List.setIfInBounds_toArray, List.set_cons_zero, List.set_cons_succ]
                              refine do_one 8 rfl (by kernel_rfl) (by rfl) (fun K hK => ?_)
                              refine wp_app (.tmp 136) (.tmp 137) 22 rfl wS.heap.size 50 i0 (Value.agg #[.string ⟨#[]⟩, .string ⟨#[]⟩, .int .i64 0]) 3 40 Tryz.underlying22 hi0 hz0 hz1 hz2 rfl (by decide) (.slice p3 (j + 1 : Nat) s3) (j + 1) ((cellsI (l.take j)).flatten ++ [.string x.key, .string x.val, .int .i64 x.kind]) (by first | rfl | simp [Act.eval, Act.put]) HO4.out ra rn rc (cellsI DR).flatten (by first | rfl | simp [Act.eval, Act.put]) (by rw [cellsI_flat, HRn.out]) (HRe.out _ HB4.out).news.1 (fun q => by have h9 := (HRe.out _ HB4.out).news.2 q; exact ⟨HRn.out.trans h9.1, h9.2⟩) (cellsI_one _) (by unfold maxLen; omega) (by omega) HB4.out.size ?_
                              intro p5 s5 w5 hown5 hgrow5 hat5
                              have HB5 : Hid (Below wS.heap.size wS w5) := grown_below HB4.out hgrow5 (fun z e => (owned_at HO4.out e).1)
                              have HO5 : Hid (OwnI wS.heap.size w5 (.slice p5 (j + 1 + rn : Nat) s5) P) := own_with HPd.out HRn.out hJl (by omega) hown5
                              clear hown5 hgrow5 hat5
                              refine hK.out _ _ (HCS.out _ HB5.out) (fun hHeld => ?_)
                              clear hK K
                              try simp only [Act.put, List.setIfInBounds_toArray, List.set_cons_zero, List.set_cons_succ]
                              refine take_w 9 rfl (by kernel_rfl) (by kernel_rfl) (by kernel_rfl) (fun _ _ _ h => h) (by rfl) (fun w hSw => by (try dsimp only at hSw); go_simp; try with_reducible rfl) (by assumption) ?_
                              simp only [Act.put, List.setIfInBounds_toArray, List.set_cons_zero, List.set_cons_succ]
                              refine wpAnyH_done (by kernel_rfl) ?_ _
                              go_wp2
                              go_meet
                              exact ⟨_, _, _, rfl, HRS.out.add HB5.out HO5.out.row⟩
                          case rest =>
                            obtain ⟨ta, tn, tc, rfl, hRw⟩ := hcut
                            have HRt := Lib.hid hRw
                            clear hRw HRj HRe
                            obtain ⟨RT, hRT⟩ : ∃ R, R = tRow kItems (.slice ta tn tc) (cellsI P) :: R0 := ⟨_, rfl⟩
                            rw [← hRT] at HRt
                            have HRT := Lib.hid hRT
                            clear hRT
                            have hdl := dropI_len l key
                            have hpl := putI_len l x
                            rw [← HQe.out] at hdl
                            rw [← HPe.out] at hpl
                            go_upto_if 140 with fail
                            obtain ⟨wS, hwS⟩ : ∃ wS, wS = wc := ⟨_, rfl⟩
                            rw [← hwS] at HRt ⊢
                            clear hwS
                            go_cut [18] from 141 to 149 (fun v W => ∃ oa on oc R1, v = .slice oa on oc ∧ Rws w1 (R1 ++ RT) W ∧ ∀ W', (∀ y ∈ R1, y.At W' w1.heap.size) → Below w1.heap.size w1 W' → ItsIn W' (.slice oa on oc) Q)
                            case first =>
                              have HRS := HRt
                              cases h with
                              | false =>
                                have hQ : Q = l := by
                                  rw [HQe.out]
                                  unfold dropI
                                  rw [if_neg (by rw [← HH.out]; simp)]
                                have HE : Hid (∀ W', Below w1.heap.size w1 W' → ItsIn W' (.slice a0 l.length c) Q) := fun W' hW => by rw [hQ]; exact HI1.out W' hW
                                clear hQ
                                go_wp2
                                go_meet
                                exact ⟨_, _, _, [], rfl, HRS.out, fun W' _ hW => HE.out W' hW⟩
                              | true =>
                                obtain ⟨y, hy, -⟩ := lowK_hit HRi.out (hasK_iff.1 HH.out.symm)
                                rw [← HK.out] at hy
                                have hkl := (List.getElem?_eq_some_iff.1 hy).1
                                obtain ⟨ab, ao, rfl, -⟩ := HCw1.out k y hy
                                have HQd : Hid (Q = l.take k ++ l.drop (k + 1)) := by
                                  show Q = _
                                  rw [HQe.out, HK.out]
                                  unfold dropI
                                  rw [if_pos HH.out.symm]
                                have HTk : Hid (∀ W, Below wS.heap.size wS W → ItsIn W (.slice (some ⟨ab, ao, none⟩) k c) (l.take k)) := fun W hW => (HI1.out W (thenBelow HRS.out.below hW)).take hKl
                                have HBd := Lib.hid ((Below.refl wS.heap.size wS).drew)
                                obtain ⟨hc1, hc2⟩ := HWc.out
                                have k1 : (k : Int) ≤ (l.length : Int) := by omega
                                have k2 : (0 : Int) ≤ (k : Int) := by omega
                                have k3 : (k : Int) ≤ (c : Int) := by omega
                                have k4 : (l.length : Int) ≤ (c : Int) := by omega
                                have k5 : (k : Int) + 1 ≤ (l.length : Int) := by omega
                                have k6 : (0 : Int) ≤ (k : Int) + 1 := by omega
                                have k7 : (k : Int) + 1 ≤ (c : Int) := by omega
                                have k8 : IntKind.i64.wrap ((k : Int) + 1) = (k : Int) + 1 := by rw [IntKind.wrap_i64]; omega
                                clear hy
                                go_upto_region 20 with fail
                                by_cases hcj : c = k + 1
                                · have HDp : Hid (∀ W, Below wS.heap.size wS W → ItsIn W (.slice (some ⟨ab, ao, none⟩) (l.length - (k + 1) : Nat) 0) (l.drop (k + 1))) := fun W hW => by
                                    have := piece_end (HI1.out W (thenBelow HRS.out.below hW)) (show l.length ≤ k + 1 by omega) (some ⟨ab, ao, none⟩) 0 (fun e => by cases e)
                                    rwa [show l.length - (k + 1) = 0 by omega]
                                  have HCJ := Lib.hid hcj
                                  have n2 : c - (k + 1) = 0 := by omega
                                  have k9 : ((k : Int) + 1).toNat = c := by omega
                                  have n3 : l.length - c = l.length - (k + 1) := by omega
                                  clear hcj
                                  refine wp_region_held_drew (S := fun _ => True) (by kernel_rfl) trivial (fun hHeld => ?_)
                                  refine take_w 0 rfl (by kernel_rfl) (by kernel_rfl) (by kernel_rfl) (fun _ _ _ h => h) (by rfl) (fun w hSw => by (try dsimp only at hSw); go_simp; try with_reducible rfl) (by assumption) ?_
                                  simp only [Act.put, List.setIfInBounds_toArray, List.set_cons_zero, List.set_cons_succ]
                                  refine take_w 1 rfl (by kernel_rfl) (by kernel_rfl) (by kernel_rfl) (fun _ _ _ h => h) (by rfl) (fun w hSw => by (try dsimp only at hSw); go_simp; try with_reducible rfl) (by assumption) ?_
                                  simp only [Act.put, List.setIfInBounds_toArray, List.set_cons_zero, List.set_cons_succ]
                                  refine take_w 2 rfl (by kernel_rfl) (by kernel_rfl) (by kernel_rfl) (fun _ _ _ h => h) (by rfl) (fun w hSw => by (try dsimp only at hSw); go_simp; try with_reducible rfl) (by assumption) ?_
                                  simp only [Act.put, List.setIfInBounds_toArray, List.set_cons_zero, List.set_cons_succ]
                                  refine take_w 4 rfl (by kernel_rfl) (by kernel_rfl) (by kernel_rfl) (fun _ _ _ h => h) (by rfl) (fun w hSw => by (try dsimp only at hSw); go_simp; try with_reducible rfl) (by assumption) ?_
                                  simp only [Act.put, List.setIfInBounds_toArray, List.set_cons_zero, List.set_cons_succ]
                                  refine take_w 5 rfl (by kernel_rfl) (by kernel_rfl) (by kernel_rfl) (fun _ _ _ h => h) (by rfl) (fun w hSw => by (try dsimp only at hSw); go_simp; try with_reducible rfl) (by assumption) ?_
                                  simp only [Act.put, List.setIfInBounds_toArray, List.set_cons_zero, List.set_cons_succ]
                                  refine take_w 6 rfl (by kernel_rfl) (by kernel_rfl) (by kernel_rfl) (fun _ _ _ h => h) (by rfl) (fun w hSw => by (try dsimp only at hSw); go_simp; try with_reducible rfl) (by assumption) ?_
                                  simp only [Act.put, List.setIfInBounds_toArray, List.set_cons_zero, List.set_cons_succ]
                                  refine take_w 7 rfl (by kernel_rfl) (by kernel_rfl) (by kernel_rfl) (fun _ _ _ h => h) (by rfl) (fun w hSw => by (try dsimp only at hSw); go_simp; try with_reducible rfl) (by assumption) ?_
                                  simp only [Act.put, List.setIfInBounds_toArray, List.set_cons_zero, List.set_cons_succ]
                                  refine do_one 3 rfl (by kernel_rfl) (by rfl) (fun K hK => ?_)
                                  refine wp_app (.const (.slice none 0 0)) (.tmp 143) 22 rfl wS.heap.size 50 i0 (Value.agg #[.string ⟨#[]⟩, .string ⟨#[]⟩, .int .i64 0]) 3 40 Tryz.underlying22 hi0 hz0 hz1 hz2 rfl (by decide) (.slice none 0 0) 0 [] (by rfl) (World.ownsRow_nil _ _ _ _) (some ⟨ab, ao, none⟩) k c (cellsI (l.take k)).flatten (by first | rfl | simp [Act.eval, Act.put]) (by rw [cellsI_flat, List.length_take, Nat.min_eq_left (by omega)]) (HTk.out _ HBd.out).news.1 (fun q => by have h9 := (HTk.out _ HBd.out).news.2 q; rw [List.length_take, Nat.min_eq_left (by omega)] at h9; exact h9) (cellsI_one _) (by unfold maxLen; omega) (by omega) HBd.out.size ?_
                                  intro p1 s1 w2 hown2 hgrow2 hat2
                                  have HB2 : Hid (Below wS.heap.size wS w2) := grown_below HBd.out hgrow2 (by intro k hk; cases hk)
                                  have HO2 : Hid (w2.ownsRow wS.heap.size 50 3 (.slice p1 k s1) k (cellsI (l.take k)).flatten) := (by rw [Nat.zero_add, List.nil_append] at hown2; exact hown2)
                                  rw [Nat.zero_add]
                                  clear hown2 hgrow2 hat2
                                  refine hK.out _ _ (trivial) (fun hHeld => ?_)
                                  clear hK K
                                  try simp only [Act.put, List.setIfInBounds_toArray, List.set_cons_zero, List.set_cons_succ]
                                  refine do_one 8 rfl (by kernel_rfl) (by rfl) (fun K hK => ?_)
                                  refine wp_app (.tmp 144) (.tmp 148) 22 rfl wS.heap.size 50 i0 (Value.agg #[.string ⟨#[]⟩, .string ⟨#[]⟩, .int .i64 0]) 3 40 Tryz.underlying22 hi0 hz0 hz1 hz2 rfl (by decide) (.slice p1 k s1) k (cellsI (l.take k)).flatten (by first | rfl | simp [Act.eval, Act.put]) HO2.out (some ⟨ab, ao, none⟩) (l.length - (k + 1) : Nat) 0 (cellsI (l.drop (k + 1))).flatten (by first | rfl | simp [Act.eval, Act.put]) (by rw [cellsI_flat, List.length_drop]) (HDp.out _ HB2.out).news.1 (fun q => by cases q) (cellsI_one _) (by unfold maxLen; omega) (by omega) HB2.out.size ?_
                                  intro p5 s5 w5 hown5 hgrow5 hat5
                                  have HB5 : Hid (Below wS.heap.size wS w5) := grown_below HB2.out hgrow5 (fun z e => (owned_at HO2.out e).1)
                                  have HO5 : Hid (OwnI wS.heap.size w5 (.slice p5 (k + (l.length - (k + 1)) : Nat) s5) Q) := own_without HQd.out hkl (by omega) hown5
                                  clear hown5 hgrow5 hat5
                                  refine hK.out _ _ (trivial) (fun hHeld => ?_)
                                  clear hK K
                                  try simp only [Act.put, List.setIfInBounds_toArray, List.set_cons_zero, List.set_cons_succ]
                                  refine take_w 9 rfl (by kernel_rfl) (by kernel_rfl) (by kernel_rfl) (fun _ _ _ h => h) (by rfl) (fun w hSw => by (try dsimp only at hSw); go_simp; try with_reducible rfl) (by assumption) ?_
                                  simp only [Act.put, List.setIfInBounds_toArray, List.set_cons_zero, List.set_cons_succ]
                                  refine wpAnyH_done (by kernel_rfl) ?_ _
                                  go_wp2
                                  go_meet
                                  exact ⟨_, _, _, [_], rfl, HRS.out.add HB5.out HO5.out.row, fun W' h1 _ => (row_own (h1 _ (List.mem_singleton.2 rfl)) HO5.out.2).its⟩
                                · have HDp : Hid (∀ W, Below wS.heap.size wS W → ItsIn W (.slice (some ⟨ab, ao + (k + 1) * 3, none⟩) (l.length - (k + 1) : Nat) (c - (k + 1) : Nat)) (l.drop (k + 1))) := fun W hW => (HI1.out W (thenBelow HRS.out.below hW)).drop (by omega) _
                                  have k9 : ((k : Int) + 1).toNat = k + 1 := by omega
                                  refine wp_region_held_drew (S := fun _ => True) (by kernel_rfl) trivial (fun hHeld => ?_)
                                  refine take_w 0 rfl (by kernel_rfl) (by kernel_rfl) (by kernel_rfl) (fun _ _ _ h => h) (by rfl) (fun w hSw => by (try dsimp only at hSw); go_simp; try with_reducible rfl) (by assumption) ?_
                                  simp only [Act.put, List.setIfInBounds_toArray, List.set_cons_zero, List.set_cons_succ]
                                  refine take_w 1 rfl (by kernel_rfl) (by kernel_rfl) (by kernel_rfl) (fun _ _ _ h => h) (by rfl) (fun w hSw => by (try dsimp only at hSw); go_simp; try with_reducible rfl) (by assumption) ?_
                                  simp only [Act.put, List.setIfInBounds_toArray, List.set_cons_zero, List.set_cons_succ]
                                  refine take_w 2 rfl (by kernel_rfl) (by kernel_rfl) (by kernel_rfl) (fun _ _ _ h => h) (by rfl) (fun w hSw => by (try dsimp only at hSw); go_simp; try with_reducible rfl) (by assumption) ?_
                                  simp only [Act.put, List.setIfInBounds_toArray, List.set_cons_zero, List.set_cons_succ]
                                  refine take_w 4 rfl (by kernel_rfl) (by kernel_rfl) (by kernel_rfl) (fun _ _ _ h => h) (by rfl) (fun w hSw => by (try dsimp only at hSw); go_simp; try with_reducible rfl) (by assumption) ?_
                                  simp only [Act.put, List.setIfInBounds_toArray, List.set_cons_zero, List.set_cons_succ]
                                  refine take_w 5 rfl (by kernel_rfl) (by kernel_rfl) (by kernel_rfl) (fun _ _ _ h => h) (by rfl) (fun w hSw => by (try dsimp only at hSw); go_simp; try with_reducible rfl) (by assumption) ?_
                                  simp only [Act.put, List.setIfInBounds_toArray, List.set_cons_zero, List.set_cons_succ]
                                  refine take_w 6 rfl (by kernel_rfl) (by kernel_rfl) (by kernel_rfl) (fun _ _ _ h => h) (by rfl) (fun w hSw => by (try dsimp only at hSw); go_simp; try with_reducible rfl) (by assumption) ?_
                                  simp only [Act.put, List.setIfInBounds_toArray, List.set_cons_zero, List.set_cons_succ]
                                  refine take_w 7 rfl (by kernel_rfl) (by kernel_rfl) (by kernel_rfl) (fun _ _ _ h => h) (by rfl) (fun w hSw => by (try dsimp only at hSw); go_simp; try with_reducible rfl) (by assumption) ?_
                                  simp only [Act.put, List.setIfInBounds_toArray, List.set_cons_zero, List.set_cons_succ]
                                  refine do_one 3 rfl (by kernel_rfl) (by rfl) (fun K hK => ?_)
                                  refine wp_app (.const (.slice none 0 0)) (.tmp 143) 22 rfl wS.heap.size 50 i0 (Value.agg #[.string ⟨#[]⟩, .string ⟨#[]⟩, .int .i64 0]) 3 40 Tryz.underlying22 hi0 hz0 hz1 hz2 rfl (by decide) (.slice none 0 0) 0 [] (by rfl) (World.ownsRow_nil _ _ _ _) (some ⟨ab, ao, none⟩) k c (cellsI (l.take k)).flatten (by first | rfl | simp [Act.eval, Act.put]) (by rw [cellsI_flat, List.length_take, Nat.min_eq_left (by omega)]) (HTk.out _ HBd.out).news.1 (fun q => by have h9 := (HTk.out _ HBd.out).news.2 q; rw [List.length_take, Nat.min_eq_left (by omega)] at h9; exact h9) (cellsI_one _) (by unfold maxLen; omega) (by omega) HBd.out.size ?_
                                  intro p1 s1 w2 hown2 hgrow2 hat2
                                  have HB2 : Hid (Below wS.heap.size wS w2) := grown_below HBd.out hgrow2 (by intro k hk; cases hk)
                                  have HO2 : Hid (w2.ownsRow wS.heap.size 50 3 (.slice p1 k s1) k (cellsI (l.take k)).flatten) := (by rw [Nat.zero_add, List.nil_append] at hown2; exact hown2)
                                  rw [Nat.zero_add]
                                  clear hown2 hgrow2 hat2
                                  refine hK.out _ _ (trivial) (fun hHeld => ?_)
                                  clear hK K
                                  try simp only [Act.put, List.setIfInBounds_toArray, List.set_cons_zero, List.set_cons_succ]
                                  refine do_one 8 rfl (by kernel_rfl) (by rfl) (fun K hK => ?_)
                                  refine wp_app (.tmp 144) (.tmp 148) 22 rfl wS.heap.size 50 i0 (Value.agg #[.string ⟨#[]⟩, .string ⟨#[]⟩, .int .i64 0]) 3 40 Tryz.underlying22 hi0 hz0 hz1 hz2 rfl (by decide) (.slice p1 k s1) k (cellsI (l.take k)).flatten (by first | rfl | simp [Act.eval, Act.put]) HO2.out (some ⟨ab, ao + (k + 1) * 3, none⟩) (l.length - (k + 1) : Nat) (c - (k + 1) : Nat) (cellsI (l.drop (k + 1))).flatten (by first | rfl | simp [Act.eval, Act.put]) (by rw [cellsI_flat, List.length_drop]) (HDp.out _ HB2.out).news.1 (fun q => by cases q) (cellsI_one _) (by unfold maxLen; omega) (by omega) HB2.out.size ?_
                                  intro p5 s5 w5 hown5 hgrow5 hat5
                                  have HB5 : Hid (Below wS.heap.size wS w5) := grown_below HB2.out hgrow5 (fun z e => (owned_at HO2.out e).1)
                                  have HO5 : Hid (OwnI wS.heap.size w5 (.slice p5 (k + (l.length - (k + 1)) : Nat) s5) Q) := own_without HQd.out hkl (by omega) hown5
                                  clear hown5 hgrow5 hat5
                                  refine hK.out _ _ (trivial) (fun hHeld => ?_)
                                  clear hK K
                                  try simp only [Act.put, List.setIfInBounds_toArray, List.set_cons_zero, List.set_cons_succ]
                                  refine take_w 9 rfl (by kernel_rfl) (by kernel_rfl) (by kernel_rfl) (fun _ _ _ h => h) (by rfl) (fun w hSw => by (try dsimp only at hSw); go_simp; try with_reducible rfl) (by assumption) ?_
                                  simp only [Act.put, List.setIfInBounds_toArray, List.set_cons_zero, List.set_cons_succ]
                                  refine wpAnyH_done (by kernel_rfl) ?_ _
                                  go_wp2
                                  go_meet
                                  exact ⟨_, _, _, [_], rfl, HRS.out.add HB5.out HO5.out.row, fun W' h1 _ => (row_own (h1 _ (List.mem_singleton.2 rfl)) HO5.out.2).its⟩
                            case rest =>
                              clear HRt
                              obtain ⟨oa, on, oc, R1, rfl, hRo, hOut⟩ := hcut
                              have HRo := Lib.hid hRo
                              have HOut := Lib.hid hOut
                              have HBk : Hid (BS w1 wc.heap.size 0 [] (R1 ++ RT) (wc.alloc (.cells #[.slice none 0 0, .slice none 0 0, .slice none 0 0, .slice none 0 0, .slice none 0 0, .slice none 0 0, .slice none 0 0, .slice none 0 0, .slice none 0 0, .slice none 0 0, .slice none 0 0, .slice none 0 0, .slice none 0 0, .slice none 0 0, .slice none 0 0, .slice none 0 0, .slice none 0 0, .slice none 0 0] 36))) := BS.start hRo
                              have hP300 : P.length ≤ 400 := by omega
                              have hQ300 : Q.length ≤ 400 := by omega
                              have hperm : (R1 ++ RT).Perm (tRow kItems (.slice pa pn pc) (cellsI P) :: tRow kItems (.slice qa qn qc) (cellsI Q) :: tRow kItems (.slice ta tn tc) (cellsI P) :: R1) := by
                                rw [HRT.out, HR0.out]
                                exact List.perm_append_comm.trans (((List.Perm.swap _ _ _).trans ((List.Perm.swap _ _ _).cons _)).trans (List.Perm.swap _ _ _))
                              have HS0 := Lib.hid (HBk.out.perm hperm)
                              obtain ⟨bb, hbb⟩ : ∃ bb, bb = wc.heap.size := ⟨_, rfl⟩
                              rw [← hbb] at HS0
                              have HSp : Hid (∀ W u v, ItsIn W u P → ItsIn W v P → Calls Tryz.prog 14 #[u, v] W fun e w' => e = .returned (.bool true) ∧ Below W.heap.size W w') := fun W u v h1 h2 => same_its W u v P h1 h2
                              have HSq : Hid (∀ W u v, ItsIn W u Q → ItsIn W v Q → Calls Tryz.prog 14 #[u, v] W fun e w' => e = .returned (.bool true) ∧ Below W.heap.size W w') := fun W u v h1 h2 => same_its W u v Q h1 h2
                              have HSt : Hid (∀ W, Below w1.heap.size w1 W → Calls Tryz.prog 17 #[.slice (some ⟨g, 0, none⟩) l.length q, .slice a0 l.length c] W fun e w' => e = .returned (.bool true) ∧ Below W.heap.size W w') := fun W hW => stays_any W _ _ l (HT1.out.below hW) (HI1.out W hW)
                              have HOw : Hid (∀ W, BS w1 bb 2 [tRow kItems (.slice qa qn qc) (cellsI Q), tRow kItems (.slice pa pn pc) (cellsI P)] (tRow kItems (.slice ta tn tc) (cellsI P) :: R1) W → ItsIn W (.slice oa on oc) Q) := fun W hW => HOut.out W (fun y hy => hW.row (List.mem_cons_of_mem _ hy)) hW.below
                              have b1 : ((k : Int) == (k : Int)) = true := beq_self_eq_true _
                              have b2 : (h == h) = true := beq_self_eq_true _
                              have HBx := HBw1
                              clear hRo hOut hperm HOut HBk HRo HRT HR0 HCw1 HCx1
                              clear HK HJ HH HH2 HPe HQe HRi hKl hJl hdl hpl hr
                              cases h
                              all_goals
                                go_upto_region 22 with fail
                                rw [← hbb]
                                go_upto_region 24 with (first
                                  | (go_at_call 13; (try rw [← hbb]); go_loud (with_reducible refine (HS0.out.keep (by omega) (by omega) ⟨_, _, _, rfl⟩).mono ?_); rintro e w6 ⟨rfl, h1⟩; have HS1 := Lib.hid h1; clear h1)
                                  | (go_at_call 13; (try rw [← hbb]); go_loud (with_reducible refine (HS1.out.keep (by omega) (by omega) ⟨_, _, _, rfl⟩).mono ?_); rintro e w7 ⟨rfl, h1⟩; have HS2 := Lib.hid h1; clear h1))
                                go_wp2_with (first
                                  | (go_at_call 14; (with_reducible refine (HSp.out _ _ _ (HS2.out.own2 (by simp) (by omega)).its (HS2.out.own (by simp) (by omega)).its).mono ?_); rintro e w8 ⟨rfl, hb⟩; have HS3 := Lib.hid (HS2.out.over hb); clear hb)
                                  | (go_at_call 14; (with_reducible refine (HSq.out _ _ _ (HS3.out.own2 (by simp) (by omega)).its (HOw.out _ HS3.out)).mono ?_); rintro e w9 ⟨rfl, hb⟩; have HS4 := Lib.hid (HS3.out.over hb); clear hb)
                                  | (go_at_call 17; (with_reducible refine (HSt.out _ HS4.out.below).mono ?_); rintro e w10 ⟨rfl, hb⟩; have HS5 := Lib.hid (HS4.out.over hb); clear hb)
                                  | (go_at_call 20; (try rw [← hbb]); (with_reducible refine (HS5.out.apart).mono ?_); rintro e w11 ⟨rfl, hb⟩; have HB6 := Lib.hid hb; clear hb)
                                  | (go_at_call 17; (with_reducible refine (HSt.out _ HB6.out).mono ?_); rintro e w12 ⟨rfl, hb⟩; have HB7 := Lib.hid (thenBelow HBx.out (thenBelow HB6.out hb)); clear hb))
                                go_ret
                                exact ⟨rfl, HB7.out⟩

end Go.Proofs.YtloajjaaidmaiaaGreat.P9
