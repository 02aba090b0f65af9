/-
  P1002: the walk of the statement TwigWays.
-/
import Derived.Test.YthihjkdankbnjaaX5
import Derived.Test.YthihjkdankbnjaaT8
import Derived.Test.YthihjkdankbnjaaAl10
import Derived.Test.YthihjkdankbnjaaArgs10
import Derived.Deep.CutRange
namespace Go.Proofs.Ythihjkdankbnjaa.P10
open Go Go.RowKit Go.Lib Go.Proofs.Ythihjkdankbnjaa.PK

theorem right_d (w : World) (v : Value) (l : List It) (h : ItsIn w v l) (d : Bool) (hd : d = true ↔ RightI l) : Calls Try.prog 5 #[v] w fun e w' => e = .returned (.bool d) ∧ Below w.heap.size w w' := by
  refine (rright_any w v l h).mono ?_
  rintro e w' ⟨⟨b, rfl, hb⟩, k⟩
  refine ⟨?_, k⟩
  have : b = d := by
    rw [Bool.eq_iff_iff, hb, hd]
  rw [this]

theorem above {a b : ByteArray} (h : kb b a = true) : Op.bytesLess a.toList b.toList = false ∧ ¬ a.toList = b.toList :=
  ⟨kb_asym h, fun e => by
    have h1 : Op.bytesLess b.toList a.toList = true := h
    rw [e, bl_irr] at h1
    cases h1⟩
theorem not_above {a b : ByteArray} (h : kb b a = false) : (Op.bytesLess a.toList b.toList = true ∧ ¬ a.toList = b.toList) ∨ (Op.bytesLess a.toList b.toList = false ∧ a.toList = b.toList) := by
  cases hq : kb a b with
  | true => exact .inl ⟨hq, fun e => (above hq).2 e.symm⟩
  | false =>
    obtain rfl := kb_tri hq h
    exact .inr ⟨hq, rfl⟩

set_option maxRecDepth 100000 in
set_option maxHeartbeats 4000000 in
theorem ways_walk (w : World) (v : Value) (l : List It) (hIW : KidsA w v l) (key : ByteArray) :
    Calls Try.prog 3 #[v, .string key] w fun e w' => e = .returned (.bool true) ∧ Below w.heap.size w w' := by
  obtain ⟨hI, -⟩ := hIW
  have HA := Lib.hid (fun w => alive_any w)
  have HLi := Lib.hid (light_any w v l hI)
  obtain ⟨d, hd⟩ : ∃ d : Bool, d = true ↔ RightI l := by
    by_cases q : RightI l
    · exact ⟨true, fun _ => q, fun _ => rfl⟩
    · exact ⟨false, fun h => (by cases h), fun h => absurd h q⟩
  have HR := Lib.hid (fun W (hW : Below w.heap.size w W) => right_d W v l (hI.below hW) d hd)
  have HI := Lib.hid hI
  have HD := Lib.hid hd
  obtain ⟨a0, c, rfl⟩ := hI.slice
  clear hI hd
  go_enter Try.func3, Try.ntmps3
  go_upto_region 1 with fail
  go_cut [24] from 8 to 24 (fun v W => ∃ b, v = .bool b ∧ Hid (b = false → LightI l ∧ d = true) ∧ Hid (Below w.heap.size w W))
  case first =>
    obtain ⟨d6, hd6⟩ : ∃ d, d = decide (key.size ≤ 100) := ⟨_, rfl⟩
    have b6 : decide ((100 : Int) < (key.size : Int)) = !d6 := by
      rw [hd6]
      by_cases q : key.size ≤ 100
      · rw [decide_eq_true q]; exact decide_eq_false (by omega)
      · rw [decide_eq_false q]; exact decide_eq_true (by omega)
    have b6' : decide (100 < key.size) = !d6 := by
      rw [hd6]
      by_cases q : key.size ≤ 100
      · rw [decide_eq_true q]; exact decide_eq_false (by omega)
      · rw [decide_eq_false q]; exact decide_eq_true (by omega)
    clear hd6
    cases d6 <;> cases d
    all_goals
      simp only [Bool.not_true, Bool.not_false] at b6 b6'
      go_wp2_with (first
        | (go_at_call 4; (with_reducible refine HLi.out.mono ?_); rintro e w2 ⟨⟨b1, rfl, h1⟩, hb⟩; have H1 := Lib.hid h1; have HB2 := Lib.hid hb; clear h1 hb)
        | (go_at_call 5; (with_reducible refine (HR.out _ HB2.out).mono ?_); rintro e w3 ⟨rfl, hb⟩; have HB3 := Lib.hid (thenBelow HB2.out hb); clear hb)
        | (go_at_call 6; (with_reducible refine (HA.out _).mono ?_); rintro e w4 ⟨rfl, hb⟩; have HB4 := Lib.hid (thenBelow HB3.out hb); clear hb))
    all_goals
      go_meet
      first
        | exact ⟨true, rfl, Lib.hid (fun h => by cases h), HB2⟩
        | exact ⟨true, rfl, Lib.hid (fun h => by cases h), HB3⟩
        | exact ⟨false, rfl, Lib.hid (fun _ => ⟨H1.out (by assumption), by trivial⟩), HB4⟩
        | exact ⟨false, rfl, Lib.hid (fun _ => ⟨H1.out rfl, by trivial⟩), HB4⟩
  case rest =>
    obtain ⟨b, rfl, hOk, hB⟩ := hcut
    cases b with
    | true =>
      go_wp2_with (go_at_call 6; (with_reducible refine (HA.out _).mono ?_); rintro e w5 ⟨rfl, hb⟩; have HB5 := Lib.hid (thenBelow hB.out hb); clear hb)
      go_ret
      exact ⟨rfl, HB5.out⟩
    | false =>
      obtain ⟨hlo, rfl⟩ := hOk.out rfl
      have hr := HD.out.1 rfl
      have h300 := hlo.1
      have HO := Lib.hid hr.1
      have h0 := hr.2
      have HFi : Hid (∀ W k, Below w.heap.size w W → Calls Try.prog 7 #[.slice a0 l.length c, .string k] W fun e w' => e = .returned (.int .i64 (findK l k)) ∧ Below W.heap.size W w') := fun W k hW => find_any W _ l k (HI.out.below hW) (by omega) hr.1
      have HAt : Hid (∀ (i : Nat) (x : It), l[i]? = some x → ∃ b off, a0 = some ⟨b, off, none⟩ ∧ ∀ W, Below w.heap.size w W → W.cell? ⟨b, off + i * 2, none⟩ = some (.string x.key) ∧ W.cell? ⟨b, off + i * 2 + 1, none⟩ = some (.int .i64 x.page)) := fun i x hi => HI.out.at_ hi
      clear HLi hOk hlo HA HR HD HI hr
      go_wp2
      go_loopw [5] (fun vi wr => ∃ i : Nat, i ≤ l.length ∧ vi = .int .i64 i ∧ Hid (Below w.heap.size w wr)) (fun vi _ => l.length - (RowKit.intOf vi).toNat)
      case atStart => exact ⟨0, Nat.zero_le _, rfl, hB⟩
      case round =>
        clear hB
        obtain ⟨i, hi, rfl, HB⟩ := hrel
        by_cases hlt : i < l.length
        · obtain ⟨x, hx⟩ : ∃ x, l[i]? = some x := ⟨_, List.getElem?_eq_getElem hlt⟩
          obtain ⟨b, off, rfl, hc⟩ := HAt.out i x hx
          have HC : Hid (∀ W, Below w.heap.size w W → W.cell? ⟨b, off + i * 2, none⟩ = some (.string x.key)) := fun W hW => (hc W hW).1
          have c0 := HC.out _ HB.out
          have hok := HO.out.ok (List.mem_of_getElem? hx)
          unfold It.ok at hok
          have hks := (of_decide_eq_true hok).1
          have z1 : x.key.size + 1 ≤ 100 := by omega
          have z2 : (x.key ++ ⟨#[0]⟩).size ≤ 100 := by rw [P0.size_app]; show x.key.size + 1 ≤ 100; omega
          have F1 : findK l x.key = (i : Nat) := findK_one HO.out hx (kb_irr _) (fun y hy => rise_at HO.out hx hy (by omega))
          have HF1 : Hid (∀ W, Below w.heap.size w W → Calls Try.prog 7 #[.slice (some ⟨b, off, none⟩) l.length c, .string x.key] W fun e w' => e = .returned (.int .i64 (i : Nat)) ∧ Below W.heap.size W w') := fun W hW => by
            have := HFi.out W x.key hW
            rwa [F1] at this
          have k1 : decide ((i : Int) < (l.length : Int)) = true := decide_eq_true (by omega)
          have k1' : decide (i < l.length) = true := decide_eq_true hlt
          have k2 : (i : Int) < (l.length : Int) := by omega
          have k3 : (0 : Int) ≤ (i : Int) := by omega
          have k4 : ((i : Int) != (i : Int)) = false := by simp
          have k5 : (0 : Int) ≤ (i : Int) + 1 := by omega
          have k6 : IntKind.i64.wrap ((i : Int) + 1) = (i : Int) + 1 := by rw [IntKind.wrap_i64]; omega
          have hbh := kb_more x.key
          by_cases hlast : i + 1 = l.length
          · have F2 : findK l (x.key ++ ⟨#[0]⟩) = (i : Nat) := findK_one HO.out hx (kb_asym hbh) (fun y hy => by have := (List.getElem?_eq_some_iff.1 hy).1; omega)
            have HF2 : Hid (∀ W, Below w.heap.size w W → Calls Try.prog 7 #[.slice (some ⟨b, off, none⟩) l.length c, .string (x.key ++ ⟨#[0]⟩)] W fun e w' => e = .returned (.int .i64 (i : Nat)) ∧ Below W.heap.size W w') := fun W hW => by
              have := HFi.out W (x.key ++ ⟨#[0]⟩) hW
              rwa [F2] at this
            have k7 : ((i : Int) + 1 == (l.length : Int)) = true := by simp; omega
            clear hx hc hok hks F1 F2 hbh hlast HFi HAt HO
            go_wp2_with (first
              | (go_at_call 7; (with_reducible refine (HF1.out _ HB.out).mono ?_); rintro e w2 ⟨rfl, hb⟩; have HB2 := Lib.hid (thenBelow HB.out hb); have c2 := HC.out _ HB2.out; clear hb)
              | (go_at_call 7; (with_reducible refine (HF2.out _ HB2.out).mono ?_); rintro e w3 ⟨rfl, hb⟩; have HB3 := Lib.hid (thenBelow HB2.out hb); clear hb))
            go_roundw
            case rel => exact ⟨i + 1, by omega, by go_num, HB3⟩
            case measure => simp [RowKit.intOf]; omega
          · obtain ⟨y, hy⟩ : ∃ y, l[i + 1]? = some y := ⟨_, List.getElem?_eq_getElem (by omega)⟩
            obtain ⟨b2, off2, e2, hc2⟩ := HAt.out (i + 1) y hy
            simp only [Option.some.injEq, Addr.mk.injEq, and_true] at e2
            obtain ⟨rfl, rfl⟩ := e2
            have HC2 : Hid (∀ W, Below w.heap.size w W → W.cell? ⟨b, off + (i + 1) * 2, none⟩ = some (.string y.key)) := fun W hW => (hc2 W hW).1
            have k7 : ((i : Int) + 1 == (l.length : Int)) = false := beq_eq_false_iff_ne.2 (by omega)
            have k8 : (i : Int) + 1 < (l.length : Int) := by omega
            cases hq : kb (x.key ++ ⟨#[0]⟩) y.key with
            | true =>
              have F2 : findK l (x.key ++ ⟨#[0]⟩) = (i : Nat) := findK_one HO.out hx (kb_asym hbh) (fun z hz => by
                rw [hy] at hz
                obtain rfl := Option.some.inj hz
                exact hq)
              have HF2 : Hid (∀ W, Below w.heap.size w W → Calls Try.prog 7 #[.slice (some ⟨b, off, none⟩) l.length c, .string (x.key ++ ⟨#[0]⟩)] W fun e w' => e = .returned (.int .i64 (i : Nat)) ∧ Below W.heap.size W w') := fun W hW => by
                have := HFi.out W (x.key ++ ⟨#[0]⟩) hW
                rwa [F2] at this
              obtain ⟨q1, q2⟩ := above hq
              clear hx hc hok hks F1 F2 hbh hlast HFi HAt HO hq hy hc2
              go_wp2_with (first
                | (go_at_call 7; (with_reducible refine (HF1.out _ HB.out).mono ?_); rintro e w2 ⟨rfl, hb⟩; have HB2 := Lib.hid (thenBelow HB.out hb); have c2 := HC.out _ HB2.out; have c3 := HC2.out _ HB2.out; clear hb)
                | (go_at_call 7; (with_reducible refine (HF2.out _ HB2.out).mono ?_); rintro e w3 ⟨rfl, hb⟩; have HB3 := Lib.hid (thenBelow HB2.out hb); clear hb))
              go_roundw
              case rel => exact ⟨i + 1, by omega, by go_num, HB3⟩
              case measure => simp [RowKit.intOf]; omega
            | false =>
              have qq := not_above hq
              clear hx hc hok hks F1 hbh hlast HFi HAt HO hq hy hc2
              rcases qq with ⟨q1, q2⟩ | ⟨q1, q2⟩
              · go_wp2_with (first
                  | (go_at_call 7; (with_reducible refine (HF1.out _ HB.out).mono ?_); rintro e w2 ⟨rfl, hb⟩; have HB2 := Lib.hid (thenBelow HB.out hb); have c2 := HC.out _ HB2.out; have c3 := HC2.out _ HB2.out; clear hb))
                go_roundw
                case rel => exact ⟨i + 1, by omega, by go_num, HB2⟩
                case measure => simp [RowKit.intOf]; omega
              · go_wp2_with (first
                  | (go_at_call 7; (with_reducible refine (HF1.out _ HB.out).mono ?_); rintro e w2 ⟨rfl, hb⟩; have HB2 := Lib.hid (thenBelow HB.out hb); have c2 := HC.out _ HB2.out; have c3 := HC2.out _ HB2.out; clear hb))
                go_roundw
                case rel => exact ⟨i + 1, by omega, by go_num, HB2⟩
                case measure => simp [RowKit.intOf]; omega
        · have k1 : decide ((i : Int) < (l.length : Int)) = false := decide_eq_false (by omega)
          have k1' : decide (i < l.length) = false := decide_eq_false hlt
          obtain ⟨n, hn1, hn2, hn3, hn4⟩ := findK_spec HO.out h0 key
          have HF : Hid (∀ W, Below w.heap.size w W → Calls Try.prog 7 #[.slice a0 l.length c, .string key] W fun e w' => e = .returned (.int .i64 (n : Nat)) ∧ Below W.heap.size W w') := fun W hW => by
            have := HFi.out W key hW
            rwa [hn1] at this
          obtain ⟨x, hx⟩ : ∃ x, l[n]? = some x := ⟨_, List.getElem?_eq_getElem hn2⟩
          obtain ⟨b, off, rfl, hc⟩ := HAt.out n x hx
          have HC : Hid (∀ W, Below w.heap.size w W → W.cell? ⟨b, off + n * 2, none⟩ = some (.string x.key)) := fun W hW => (hc W hW).1
          have m1 : decide ((0 : Int) ≤ (n : Int)) = true := decide_eq_true (by omega)
          have m2 : decide ((n : Int) < (l.length : Int)) = true := decide_eq_true (by omega)
          have m2' : decide (n < l.length) = true := decide_eq_true hn2
          have m3 : (n : Int) < (l.length : Int) := by omega
          have m4 : (0 : Int) ≤ (n : Int) := by omega
          have m5 : (0 : Int) ≤ (n : Int) + 1 := by omega
          have m6 : IntKind.i64.wrap ((n : Int) + 1) = (n : Int) + 1 := by rw [IntKind.wrap_i64]; omega
          obtain ⟨z, hz⟩ : ∃ z, z = decide (n = 0) := ⟨_, rfl⟩
          have m7 : ((n : Int) == 0) = z := by rw [hz, Bool.eq_iff_iff]; simp
          have m7' : (n == 0) = z := by rw [hz, Bool.eq_iff_iff]; simp
          have HX : Hid (z = false → kb key x.key = false) := fun h => by
            rw [hz] at h
            rcases hn3 with q | ⟨y, hy, q⟩
            · exact absurd q (of_decide_eq_false h)
            · rw [hx] at hy
              obtain rfl := Option.some.inj hy
              exact q
          by_cases hlast : n + 1 = l.length
          · have m8 : ((n : Int) + 1 == (l.length : Int)) = true := by simp; omega
            clear hn1 hn3 hn4 hx hc hz HFi HAt HO hlast hlt
            cases z with
            | true =>
              go_wp2_with (go_at_call 7; (with_reducible refine (HF.out _ HB.out).mono ?_); rintro e w2 ⟨rfl, hb⟩; have HB2 := Lib.hid (thenBelow HB.out hb); have c2 := HC.out _ HB2.out; clear hb)
              go_ret
              exact ⟨rfl, HB2.out⟩
            | false =>
              rcases not_above (HX.out rfl) with ⟨m9, m13⟩ | ⟨m9, m13⟩
              · go_wp2_with (go_at_call 7; (with_reducible refine (HF.out _ HB.out).mono ?_); rintro e w2 ⟨rfl, hb⟩; have HB2 := Lib.hid (thenBelow HB.out hb); have c2 := HC.out _ HB2.out; clear hb)
                go_ret
                exact ⟨rfl, HB2.out⟩
              · go_wp2_with (go_at_call 7; (with_reducible refine (HF.out _ HB.out).mono ?_); rintro e w2 ⟨rfl, hb⟩; have HB2 := Lib.hid (thenBelow HB.out hb); have c2 := HC.out _ HB2.out; clear hb)
                go_ret
                exact ⟨rfl, HB2.out⟩
          · obtain ⟨y, hy⟩ : ∃ y, l[n + 1]? = some y := ⟨_, List.getElem?_eq_getElem (by omega)⟩
            obtain ⟨b2, off2, e2, hc2⟩ := HAt.out (n + 1) y hy
            simp only [Option.some.injEq, Addr.mk.injEq, and_true] at e2
            obtain ⟨rfl, rfl⟩ := e2
            have HC2 : Hid (∀ W, Below w.heap.size w W → W.cell? ⟨b, off + (n + 1) * 2, none⟩ = some (.string y.key)) := fun W hW => (hc2 W hW).1
            have m8 : ((n : Int) + 1 == (l.length : Int)) = false := beq_eq_false_iff_ne.2 (by omega)
            have m10 : (n : Int) + 1 < (l.length : Int) := by omega
            obtain ⟨m11, m12⟩ := above (hn4 y hy)
            have m14 : (y.key.toList == key.toList) = false := beq_eq_false_iff_ne.2 m12
            clear hn1 hn3 hn4 hx hc hz HFi HAt HO hlast hlt hy hc2
            cases z with
            | true =>
              go_wp2_with (go_at_call 7; (with_reducible refine (HF.out _ HB.out).mono ?_); rintro e w2 ⟨rfl, hb⟩; have HB2 := Lib.hid (thenBelow HB.out hb); have c2 := HC.out _ HB2.out; have c3 := HC2.out _ HB2.out; clear hb)
              go_ret
              exact ⟨rfl, HB2.out⟩
            | false =>
              rcases not_above (HX.out rfl) with ⟨m9, m13⟩ | ⟨m9, m13⟩
              · go_wp2_with (go_at_call 7; (with_reducible refine (HF.out _ HB.out).mono ?_); rintro e w2 ⟨rfl, hb⟩; have HB2 := Lib.hid (thenBelow HB.out hb); have c2 := HC.out _ HB2.out; have c3 := HC2.out _ HB2.out; clear hb)
                go_ret
                exact ⟨rfl, HB2.out⟩
              · go_wp2_with (go_at_call 7; (with_reducible refine (HF.out _ HB.out).mono ?_); rintro e w2 ⟨rfl, hb⟩; have HB2 := Lib.hid (thenBelow HB.out hb); have c2 := HC.out _ HB2.out; have c3 := HC2.out _ HB2.out; clear hb)
                go_ret
                exact ⟨rfl, HB2.out⟩

end Go.Proofs.Ythihjkdankbnjaa.P10
