/-
  Texts of the proof of SaidEdit9, side by side: V7.
-/
import Derived.Test.YtloajjaaidmaiaaGreatMpE05
import Derived.Test.YtloajjaaidmaiaaGreatMpE17
/-
  Items: parts that fit; the reference's CutItems.
-/
namespace Go.Proofs.YtloajjaaidmaiaaGreat.P9
open Go Go.RowKit Go.Lib Go.Proofs.YtloajjaaidmaiaaGreat.PK

/-- n items are the first part: they fit, one more would not -/
def Fills (l : List It) (n : Nat) : Prop :=
  1 ≤ n ∧ n ≤ l.length ∧ (∀ m, 2 ≤ m → m ≤ n → 1 + sumI (l.take m) ≤ 232) ∧ (n < l.length → 232 < 1 + sumI (l.take (n + 1)))
theorem Fills.le {l : List It} {n m : Nat} (h : Fills l n) (k : Fills l m) : n ≤ m := by
  refine Nat.le_of_not_lt fun hlt => ?_
  obtain ⟨h1, h2, h3, h4⟩ := h
  obtain ⟨k1, k2, k3, k4⟩ := k
  have := k4 (by omega)
  have := h3 (m + 1) (by omega) (by omega)
  omega
theorem Fills.one {l : List It} {n m : Nat} (h : Fills l n) (k : Fills l m) : n = m := Nat.le_antisymm (h.le k) (k.le h)
/-- the parts of a list, one behind the other -/
inductive Cuts : List It → List (List It) → Prop
  | nil : Cuts [] []
  | cons {l : List It} {n : Nat} {P : List (List It)} : Fills l n → Cuts (l.drop n) P → Cuts l (l.take n :: P)
theorem Cuts.one {l : List It} {P Q : List (List It)} (h : Cuts l P) (k : Cuts l Q) : P = Q := by
  induction h generalizing Q with
  | nil =>
    cases k with
    | nil => rfl
    | cons f _ => exact absurd f.2.1 (by have := f.1; simp; omega)
  | cons f _ ih =>
    cases k with
    | nil => exact absurd f.2.1 (by have := f.1; simp; omega)
    | cons g k =>
      obtain rfl := f.one g
      rw [ih k]
theorem Cuts.flat {l : List It} {P : List (List It)} (h : Cuts l P) : P.flatten = l := by
  induction h with
  | nil => rfl
  | cons f _ ih => rw [List.flatten_cons, ih, List.take_append_drop]
theorem ItsIn.take {w : World} {a : Option Addr} {c : Nat} {l : List It} (h : ItsIn w (.slice a l.length c) l) {n : Nat} (hn : n ≤ l.length) : ItsIn w (.slice a n c) (l.take n) := by
  obtain ⟨a', c', e, h1, h2, h3, h4⟩ := h
  simp only [Value.slice.injEq] at e
  obtain ⟨rfl, _, rfl⟩ := e
  rw [cellsI_length] at h2 h4
  have hl : (l.take n).length = n := by rw [List.length_take]; omega
  refine ⟨a, c, by rw [cellsI_length, hl], h1, by rw [cellsI_length, hl]; omega, cellsI_ok _, fun h0 => ?_⟩
  rw [cellsI_length, hl] at h0
  obtain ⟨b, off, h5, h6, h7⟩ := h4 (by omega)
  refine ⟨b, off, h5, h6, fun i x hi j u hu => h7 i x ?_ j u hu⟩
  unfold cellsI at hi ⊢
  rw [List.map_take, List.getElem?_take] at hi
  split at hi
  · exact hi
  · cases hi
theorem ItsIn.drop {w : World} {b off c : Nat} {l : List It} (h : ItsIn w (.slice (some ⟨b, off, none⟩) l.length c) l) {n : Nat} (hn : n ≤ l.length) (c' : Nat) : ItsIn w (.slice (some ⟨b, off + n * 3, none⟩) (l.length - n) c') (l.drop n) := by
  obtain ⟨a', c', e, h1, h2, h3, h4⟩ := h
  simp only [Value.slice.injEq] at e
  obtain ⟨rfl, _, rfl⟩ := e
  rw [cellsI_length] at h2 h4
  have hl : (l.drop n).length = l.length - n := by rw [List.length_drop]
  refine ⟨_, _, by rw [cellsI_length, hl], (fun q => by cases q), by rw [cellsI_length, hl]; omega, cellsI_ok _, fun h0 => ?_⟩
  rw [cellsI_length, hl] at h0
  obtain ⟨b', off', h5, h6, h7⟩ := h4 (by omega)
  simp only [Option.some.injEq, Addr.mk.injEq, and_true] at h5
  obtain ⟨rfl, rfl⟩ := h5
  refine ⟨b, off + n * 3, rfl, h6, fun i x hi j u hu => ?_⟩
  have := h7 (n + i) x (by
    unfold cellsI at hi ⊢
    rw [List.map_drop, List.getElem?_drop] at hi
    exact hi) j u hu
  rwa [show off + ((n + i) * kItems.n + j) = off + n * 3 + (i * kItems.n + j) by show off + ((n + i) * 3 + j) = off + n * 3 + (i * 3 + j); omega] at this

theorem sumI_len1 (l : List It) : l.length ≤ sumI l := by
  induction l with
  | nil => exact Nat.le_refl _
  | cons x l ih => rw [sumI_cons, List.length_cons]; unfold It.need; omega
/-- a row of lists -/
def PartsIn (w : World) (lo : Nat) (v : Value) (P : List (List It)) : Prop :=
  ∃ vs : List Value, vs.length = P.length ∧ w.ownsRow lo 22 1 v P.length vs ∧ ∀ (i : Nat) (u : Value) (p : List It), vs[i]? = some u → P[i]? = some p → ItsIn w u p
theorem PartsIn.nil (w : World) (lo : Nat) : PartsIn w lo (.slice none 0 0) [] := ⟨[], rfl, World.ownsRow_nil _ _ _ _, fun i u p h => by simp at h⟩
theorem PartsIn.below {w w' : World} {lo : Nat} {v : Value} {P : List (List It)} (h : PartsIn w lo v P) (k : Below w.heap.size w w') : PartsIn w' lo v P := by
  obtain ⟨vs, h1, h2, h3⟩ := h
  exact ⟨vs, h1, owns_below h2 k, fun i u p hu hp => (h3 i u p hu hp).below k⟩
/-- the same: the lists wherever the list stands of which they are pieces (lv: its slice) -/
def PartsL (lv : Value) (l : List It) (w : World) (lo : Nat) (v : Value) (P : List (List It)) : Prop :=
  ∃ vs : List Value, vs.length = P.length ∧ w.ownsRow lo 22 1 v P.length vs ∧ ∀ (i : Nat) (u : Value) (p : List It), vs[i]? = some u → P[i]? = some p → ∀ W, ItsIn W lv l → ItsIn W u p
theorem PartsL.nil (lv : Value) (l : List It) (w : World) (lo : Nat) : PartsL lv l w lo (.slice none 0 0) [] := ⟨[], rfl, World.ownsRow_nil _ _ _ _, fun i u p h => by simp at h⟩
theorem PartsL.over {lv : Value} {l : List It} {w w' : World} {lo : Nat} {v : Value} {P : List (List It)} (h : PartsL lv l w lo v P) (k : Below w.heap.size w w') : PartsL lv l w' lo v P := by
  obtain ⟨vs, h1, h2, h3⟩ := h
  exact ⟨vs, h1, owns_below h2 k, h3⟩
theorem snoc_parts {X : Value → List It → Prop} {vs : List Value} {P : List (List It)} (h1 : vs.length = P.length) (h3 : ∀ (i : Nat) (u : Value) (p : List It), vs[i]? = some u → P[i]? = some p → X u p) {x : Value} {q : List It} (hx : X x q) :
    ∀ (i : Nat) (u : Value) (p : List It), (vs ++ [x])[i]? = some u → (P ++ [q])[i]? = some p → X u p := fun i u p hu hp => by
  by_cases hi : i < vs.length
  · rw [List.getElem?_append_left hi] at hu
    rw [List.getElem?_append_left (by omega)] at hp
    exact h3 i u p hu hp
  · rw [List.getElem?_append_right (by omega)] at hu
    rw [List.getElem?_append_right (by omega)] at hp
    by_cases e : i = vs.length
    · rw [show i - vs.length = 0 by omega] at hu
      rw [show i - P.length = 0 by omega] at hp
      obtain rfl : x = u := by simpa using hu
      obtain rfl : q = p := by simpa using hp
      exact hx
    · rw [List.getElem?_eq_none (by simp; omega)] at hu
      cases hu
theorem infoItemss : (Tryz.prog.info? 22).map (fun i => (i.zero, i.size, i.bytes)) = some (some (.slice none 0 0), 1, 24) := by kernel_rfl

/-- a slice's length -/
def lenV : Value → Nat
  | .slice _ n _ => n
  | _ => 0

set_option maxRecDepth 100000 in
set_option maxHeartbeats 8000000 in
theorem rcut_any (w : World) (b off c : Nat) (l : List It) (h : ItsIn w (.slice (some ⟨b, off, none⟩) l.length c) l) (hc : l.length ≤ c) (hm : c ≤ 9223372036854775807) (hs : sumI l ≤ 1000000) :
    Calls Tryz.prog 26 #[.slice (some ⟨b, off, none⟩) l.length c] w fun e w' => ∃ v P, e = .returned v ∧ Cuts l P ∧ PartsL (.slice (some ⟨b, off, none⟩) l.length c) l w' w.heap.size v P ∧ Below w.heap.size w w' := by
  obtain ⟨i0, hi0, hz0, hz1, hz2⟩ := info_parts infoItemss
  go_enter Tryz.func26, Tryz.ntmps26
  go_wp2
  go_loopw [0, 3] (fun vl vo wr => ∃ (k o2 : Nat) (P : List (List It)), k ≤ l.length ∧ vl = .slice (some ⟨b, o2, none⟩) (l.length - k : Nat) (c - k : Nat) ∧ (k < l.length → o2 = off + k * 3) ∧ Hid (∀ Q, Cuts (l.drop k) Q → Cuts l (P ++ Q)) ∧ P.length ≤ k ∧ Hid (PartsL (.slice (some ⟨b, off, none⟩) l.length c) l wr w.heap.size vo P) ∧ Hid (Below w.heap.size w wr)) (fun vl _ _ => lenV vl)
  case atStart => exact ⟨0, off, [], Nat.zero_le _, by simp, fun _ => by omega, fun Q h => h, Nat.le_refl _, PartsL.nil _ _ _ _, Below.refl _ _⟩
  case round =>
    obtain ⟨k, o2, P, hk, rfl, hoo, HQ, hP, HP, HB⟩ := hrel
    by_cases hlt : k < l.length
    · obtain ⟨m, hm1⟩ : ∃ m, m = l.length - k := ⟨_, rfl⟩
      obtain ⟨cc, hc1⟩ : ∃ cc, cc = c - k := ⟨_, rfl⟩
      have ho2 := hoo hlt
      obtain ⟨L, hL⟩ : ∃ L, L = l.drop k := ⟨_, rfl⟩
      have hLm : L.length = m := by rw [hL, List.length_drop, hm1]
      have hI : ItsIn w (.slice (some ⟨b, o2, none⟩) L.length cc) L := by
        have := h.drop hk cc
        rw [hL, List.length_drop, ho2]
        exact this
      have hsL : sumI L ≤ 1000000 := by
        have := congrArg sumI (List.take_append_drop k l)
        rw [sumI_app, ← hL] at this
        omega
      have HI := Lib.hid hI
      obtain ⟨LV, hLV⟩ : ∃ v, v = Value.slice (some ⟨b, off, none⟩) l.length c := ⟨_, rfl⟩
      rw [← hLV] at HP ⊢
      have HIL : Hid (∀ W, ItsIn W LV l → ItsIn W (.slice (some ⟨b, o2, none⟩) L.length cc) L) := fun W hW => by
        rw [hLV] at hW
        have := hW.drop hk cc
        rw [hL, List.length_drop, ho2]
        exact this
      clear hLV
      have HZ : Hid (∀ (W : World) (q : Nat), Below w.heap.size w W → q ≤ L.length → Calls Tryz.prog 16 #[.slice (some ⟨b, o2, none⟩) q cc] W fun e w' => e = .returned (.int .i64 ((1 + sumI (L.take q) : Nat) : Int)) ∧ ∃ z, w' = W.drewN z) := fun W q hW hq => by
        have h9 := sumI_le (l := L) q
        exact rsize_any W _ _ ((hI.take hq).below hW) (by omega)
      rw [← hm1, ← hc1]
      have hmc : m ≤ cc := by omega
      have hcb : cc ≤ 9223372036854775807 := by omega
      have hm0 : 0 < m := by omega
      have k1 : decide ((0 : Int) < (m : Int)) = true := decide_eq_true (by omega)
      have k1' : decide (0 < m) = true := decide_eq_true hm0
      have HL := Lib.hid hL
      have HLm := Lib.hid hLm
      have HK : Hid (m = l.length - k ∧ cc = c - k ∧ o2 = off + k * 3 ∧ k < l.length ∧ l.length ≤ c ∧ c ≤ 9223372036854775807) := ⟨hm1, hc1, ho2, hlt, hc, hm⟩
      have hPb : P.length ≤ 1000000 := by have := sumI_len1 l; omega
      clear hoo hI hsL hL hLm hm1 hc1 ho2 hk hlt hc hm hs h
      go_wp2
      go_loopw [4] (fun vn w2 => ∃ n : Nat, 1 ≤ n ∧ n ≤ m ∧ vn = .int .i64 n ∧ Hid (∀ j, 2 ≤ j → j ≤ n → 1 + sumI (L.take j) ≤ 232) ∧ Hid (Below w.heap.size w w2) ∧ Hid (PartsL LV l w2 w.heap.size u3 P)) (fun vn _ => m - (RowKit.intOf vn).toNat)
      case atStart => exact ⟨1, Nat.le_refl _, hm0, rfl, fun j h1 h2 => by omega, HB, HP⟩
      case round =>
        obtain ⟨n, hn1, hn2, rfl, HF, HB2, HP2⟩ := hrel
        by_cases hnm : n < m
        · have k2 : decide ((n : Int) < (m : Int)) = true := decide_eq_true (by omega)
          have k2' : decide (n < m) = true := decide_eq_true hnm
          have k3 : (0 : Int) ≤ (n : Int) + 1 := by omega
          have k4 : (n : Int) + 1 ≤ (cc : Int) := by omega
          have HZ1 := Lib.hid (HZ.out wr (n + 1) HB2.out (by rw [HLm.out]; omega))
          by_cases hfit : 1 + sumI (L.take (n + 1)) ≤ 232
          · have k5 : decide (((1 + sumI (L.take (n + 1)) : Nat) : Int) ≤ 232) = true := decide_eq_true (by omega)
            have HF2 : Hid (∀ j, 2 ≤ j → j ≤ n + 1 → 1 + sumI (L.take j) ≤ 232) := fun j h1 h2 => by
              by_cases e : j = n + 1
              · rw [e]; exact hfit
              · exact HF.out j h1 (by omega)
            obtain ⟨z, hz⟩ : ∃ z, z = 1 + sumI (L.take (n + 1)) := ⟨_, rfl⟩
            rw [← hz] at HZ1 k5 hfit
            have k6 : decide (z ≤ 232) = true := decide_eq_true hfit
            clear hz hfit HZ
            go_wp2_with (go_at_call 16; (with_reducible refine (HZ1.out).mono ?_); rintro e w3 ⟨rfl, q3, rfl⟩)
            go_roundw
            case rel => exact ⟨n + 1, by omega, by omega, by go_num, HF2, ⟨HB2.out.os, HB2.out.tape, HB2.out.output, HB2.out.size, HB2.out.block⟩, HP2.out.over ⟨rfl, rfl, rfl, Nat.le_refl _, fun _ _ => rfl⟩⟩
            case measure => simp [RowKit.intOf]; omega
          · have HFl : Hid (Fills L n) := ⟨hn1, by rw [HLm.out]; exact hn2, HF.out, fun _ => by omega⟩
            have k5 : decide (((1 + sumI (L.take (n + 1)) : Nat) : Int) ≤ 232) = false := decide_eq_false (by omega)
            obtain ⟨z, hz⟩ : ∃ z, z = 1 + sumI (L.take (n + 1)) := ⟨_, rfl⟩
            rw [← hz] at HZ1 k5 hfit
            have k6 : decide (z ≤ 232) = false := decide_eq_false hfit
            clear hz hfit HZ
            obtain ⟨vs, hv1, hv2, hv3⟩ := HP2.out
            obtain ⟨va, vn, vc, rfl⟩ := owns_shape hv2
            have HV2 := Lib.hid hv2
            have HV3 := Lib.hid hv3
            have HV1 := Lib.hid hv1
            clear hv1 hv2 hv3
            have j1 : (n : Int) ≤ (m : Int) := by omega
            have j2 : (0 : Int) ≤ (n : Int) := by omega
            have j3 : (n : Int) ≤ (cc : Int) := by omega
            have j4 : P.length ≤ 1000000 := hPb
            go_wp2_with (first
              | (go_at_call 16; (with_reducible refine (HZ1.out).mono ?_); rintro e w3 ⟨rfl, q3, rfl⟩; have HBW := Lib.hid (⟨HB2.out.os, HB2.out.tape, HB2.out.output, HB2.out.size, HB2.out.block⟩ : Below w.heap.size w (wr.drewN q3)))
              | (at_builtin; refine wpList_append_own _ rfl _ _ 28 rfl w.heap.size 22 i0 (.slice none 0 0) 1 24 Tryz.underlying28 hi0 hz0 hz1 hz2 rfl (by decide) _ P.length vs rfl (World.ownsRow.alloc HV2.out _) ⟨wr.heap.size, 0, none⟩ 1 1 [.slice (some ⟨b, o2, none⟩) n cc] rfl rfl ?c1 ?c2 ?c3 ?c4 ?c5 ?_))
            case c1 => exact cells_new wr [.slice (some ⟨b, o2, none⟩) n cc] 22
            case c2 => intro u hu; simp at hu; subst hu; rfl
            case c3 => unfold maxLen; omega
            case c4 => omega
            case c5 => have := HB2.out.size; simp; omega
            intro v' w5 hown' hgrow _
            have HO5 := Lib.hid hown'
            have HB5 : Hid (Below w.heap.size w w5) := (grow HBW.out _).grown hgrow (grow HBW.out _).size (fun q hq => (HV2.out.lt q hq).1)
            have HG5 := Lib.hid hgrow
            clear hown' hgrow
            go_wp2
            have HPn : Hid (PartsL LV l w5 w.heap.size v' (P ++ [L.take n])) := ⟨vs ++ [.slice (some ⟨b, o2, none⟩) n cc], by simp [HV1.out], by rw [List.length_append, List.length_singleton]; exact HO5.out, snoc_parts (X := fun u p => ∀ W, ItsIn W LV l → ItsIn W u p) HV1.out HV3.out (fun W hW => (HIL.out W hW).take (by rw [HLm.out]; exact hn2))⟩
            have HQn : Hid (∀ Q, Cuts (l.drop (k + n)) Q → Cuts l ((P ++ [L.take n]) ++ Q)) := fun Q hQ => by
              rw [List.append_assoc]
              refine HQ.out _ (?_ : Cuts (l.drop k) (L.take n :: Q))
              have h1 := HL.out
              rw [← h1]
              refine Cuts.cons HFl.out ?_
              rw [h1, List.drop_drop]
              exact hQ
            obtain ⟨q1, q2, q3', q4, q5, q6⟩ := HK.out
            refine ⟨⟨k + n, if cc = n then o2 else o2 + n * 3, P ++ [L.take n], by omega, ?_, fun h => ?_, HQn, by rw [List.length_append, List.length_singleton]; omega, HPn, HB5⟩, ?_⟩
            · rw [show l.length - (k + n) = m - n by omega, show c - (k + n) = cc - n by omega]
              by_cases e : cc = n
              · first | (rw [if_pos e, if_pos e]; done) | (exfalso; omega)
              · first | (rw [if_neg e, if_neg e]; done) | (rw [if_neg e]; done)
            · rw [if_neg (by omega), q3', Nat.add_mul]
              omega
            · show m - n < m
              omega
        · have e9 : n = m := by omega
          have HFl : Hid (Fills L n) := ⟨hn1, by rw [HLm.out]; exact hn2, HF.out, fun h => by have := HLm.out; omega⟩
          have k2 : decide ((n : Int) < (m : Int)) = false := decide_eq_false (by omega)
          have k2' : decide (n < m) = false := decide_eq_false hnm
          have HBW := HB2
          clear e9 hnm HZ
          obtain ⟨vs, hv1, hv2, hv3⟩ := HP2.out
          obtain ⟨va, vn, vc, rfl⟩ := owns_shape hv2
          have HV2 := Lib.hid hv2
          have HV3 := Lib.hid hv3
          have HV1 := Lib.hid hv1
          clear hv1 hv2 hv3
          have j1 : (n : Int) ≤ (m : Int) := by omega
          have j2 : (0 : Int) ≤ (n : Int) := by omega
          have j3 : (n : Int) ≤ (cc : Int) := by omega
          have j4 : P.length ≤ 1000000 := hPb
          go_wp2_with (first
            | (at_builtin; refine wpList_append_own _ rfl _ _ 28 rfl w.heap.size 22 i0 (.slice none 0 0) 1 24 Tryz.underlying28 hi0 hz0 hz1 hz2 rfl (by decide) _ P.length vs rfl (World.ownsRow.alloc HV2.out _) ⟨wr.heap.size, 0, none⟩ 1 1 [.slice (some ⟨b, o2, none⟩) n cc] rfl rfl ?c1 ?c2 ?c3 ?c4 ?c5 ?_))
          case c1 => exact cells_new wr [.slice (some ⟨b, o2, none⟩) n cc] 22
          case c2 => intro u hu; simp at hu; subst hu; rfl
          case c3 => unfold maxLen; omega
          case c4 => omega
          case c5 => have := HB2.out.size; simp; omega
          intro v' w5 hown' hgrow _
          have HO5 := Lib.hid hown'
          have HB5 : Hid (Below w.heap.size w w5) := (grow HBW.out _).grown hgrow (grow HBW.out _).size (fun q hq => (HV2.out.lt q hq).1)
          have HG5 := Lib.hid hgrow
          clear hown' hgrow
          go_wp2
          have HPn : Hid (PartsL LV l w5 w.heap.size v' (P ++ [L.take n])) := ⟨vs ++ [.slice (some ⟨b, o2, none⟩) n cc], by simp [HV1.out], by rw [List.length_append, List.length_singleton]; exact HO5.out, snoc_parts (X := fun u p => ∀ W, ItsIn W LV l → ItsIn W u p) HV1.out HV3.out (fun W hW => (HIL.out W hW).take (by rw [HLm.out]; exact hn2))⟩
          have HQn : Hid (∀ Q, Cuts (l.drop (k + n)) Q → Cuts l ((P ++ [L.take n]) ++ Q)) := fun Q hQ => by
            rw [List.append_assoc]
            refine HQ.out _ (?_ : Cuts (l.drop k) (L.take n :: Q))
            have h1 := HL.out
            rw [← h1]
            refine Cuts.cons HFl.out ?_
            rw [h1, List.drop_drop]
            exact hQ
          obtain ⟨q1, q2, q3', q4, q5, q6⟩ := HK.out
          refine ⟨⟨k + n, if cc = n then o2 else o2 + n * 3, P ++ [L.take n], by omega, ?_, fun h => ?_, HQn, by rw [List.length_append, List.length_singleton]; omega, HPn, HB5⟩, ?_⟩
          · rw [show l.length - (k + n) = m - n by omega, show c - (k + n) = cc - n by omega]
            by_cases e : cc = n
            · first | (rw [if_pos e, if_pos e]; done) | (exfalso; omega)
            · first | (rw [if_neg e, if_neg e]; done) | (rw [if_neg e]; done)
          · rw [if_neg (by omega), q3', Nat.add_mul]
            omega
          · show m - n < m
            omega
    · have e9 : k = l.length := by omega
      subst e9
      have k1 : decide ((0 : Int) < ((l.length - l.length : Nat) : Int)) = false := by simp
      have k1' : decide (0 < l.length - l.length) = false := by simp
      have HC : Hid (Cuts l P) := by
        have := HQ.out [] (by rw [List.drop_length]; exact Cuts.nil)
        rwa [List.append_nil] at this
      go_wp2
      go_ret
      exact ⟨_, _, rfl, HC.out, HP.out, HB.out⟩

end Go.Proofs.YtloajjaaidmaiaaGreat.P9
