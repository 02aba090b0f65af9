/-
  P901, P902: the walk of the statement LeafOrder.
-/
import Derived.Test.YtloajjaaidmaiaaU11
import Derived.Test.YtloajjaaidmaiaaLawFits9
import Derived.Test.YtloajjaaidmaiaaBook1
namespace Go.Proofs.Ytloajjaaidmaiaa.P9
open Go Go.RowKit Go.Lib Go.Proofs.Ytloajjaaidmaiaa.PK
open Go.Proofs.Ytloajjaaidmaiaa.P0 (TextsIn shortB same_true same_false)

theorem OwnI.len_ {lo : Nat} {w : World} {a : Option Addr} {n c : Nat} {l : List It} (h : OwnI lo w (.slice a n c) l) : n = l.length := by
  obtain ⟨_, _, e⟩ := h.its.slice
  simp only [Value.slice.injEq] at e
  exact e.2.1
theorem mem_at {ds : List ByteArray} {k : ByteArray} : k ∈ ds ↔ ∃ j : Nat, ds[j]? = some k := List.mem_iff_getElem?
/-- a text of a list -/
theorem text_at {w : World} {a : Option Addr} {c : Nat} {l : List ByteArray} (h : TextsIn w (.slice a l.length c) l) {i : Nat} {d : ByteArray} (hi : l[i]? = some d) : ∃ b off, a = some ⟨b, off, none⟩ ∧ ∀ W, Below w.heap.size w W → W.cell? ⟨b, off + i, none⟩ = some (.string d) := by
  obtain ⟨a', c', e, _, _, _, h3⟩ := h
  simp only [Value.slice.injEq] at e
  obtain ⟨rfl, _, rfl⟩ := e
  obtain ⟨hlt, rfl⟩ := List.getElem?_eq_some_iff.1 hi
  obtain ⟨b, off, rfl, hb, hc⟩ := h3 (by omega)
  exact ⟨b, off, rfl, fun W hW => (hW.cell (p := ⟨b, off + i, none⟩) hb).trans (hc i hlt)⟩

set_option maxRecDepth 100000 in
set_option maxHeartbeats 4000000 in
theorem order_walk (w : World) (v : Value) (l : List It) (hIW : ItsA w v l) (v2 : Value) (ds : List ByteArray) (hT : TextsIn w v2 ds) :
    Calls Try.prog 3 #[v, v2] w fun e w' => e = .returned (.bool true) ∧ Below w.heap.size w w' := by
  obtain ⟨hI, -⟩ := hIW
  have HA := Lib.hid (fun w => alive_any w)
  have HLi := Lib.hid (light_any w v l hI)
  have HSh := Lib.hid (fun W (hW : Below w.heap.size w W) => P0.short_any W v2 ds 60 2000 (hT.below hW) (by decide) (by decide))
  have HI := Lib.hid hI
  obtain ⟨a, c, rfl⟩ := hI.slice
  obtain ⟨a2, c2, rfl⟩ : ∃ a c, v2 = .slice a ds.length c := by
    obtain ⟨a, c, e, _⟩ := hT
    exact ⟨a, c, e⟩
  have HT := Lib.hid hT
  obtain ⟨sh, hsh⟩ : ∃ s, s = shortB 60 2000 ds := ⟨_, rfl⟩
  rw [← hsh] at HSh
  have HS2 : Hid (sh = true → ds.length ≤ 60) := fun h => by
    rw [hsh] at h
    have := (of_decide_eq_true h).1
    omega
  clear hI hT hsh
  go_enter Try.func3, Try.ntmps3
  go_upto_region 1 with fail
  go_cut [37] from 21 to 37 (fun v W => ∃ b, v = .bool b ∧ Hid (b = false → LightI l ∧ l.length ≤ 60 ∧ ds.length ≤ 60) ∧ Hid (Below w.heap.size w W))
  case first =>
    obtain ⟨d6, hd6⟩ : ∃ d, d = decide (l.length ≤ 60) := ⟨_, rfl⟩
    have b6 : decide ((60 : Int) < (l.length : Int)) = !d6 := by
      rw [hd6]
      by_cases q : l.length ≤ 60
      · rw [decide_eq_true q]; exact decide_eq_false (by omega)
      · rw [decide_eq_false q]; exact decide_eq_true (by omega)
    have b6' : decide (60 < l.length) = !d6 := by
      rw [hd6]
      by_cases q : l.length ≤ 60
      · rw [decide_eq_true q]; exact decide_eq_false (by omega)
      · rw [decide_eq_false q]; exact decide_eq_true (by omega)
    have H6 : Hid (d6 = true → l.length ≤ 60) := fun h => by rw [hd6] at h; exact of_decide_eq_true h
    clear hd6
    cases d6 <;> cases sh
    all_goals
      simp only [Bool.not_true, Bool.not_false] at b6 b6'
      go_wp2_with (first
        | (go_at_call 5; (with_reducible refine HLi.out.mono ?_); rintro e w2 ⟨⟨b1, rfl, h1⟩, hb⟩; have H1 := Lib.hid h1; have HB2 := Lib.hid hb; clear h1 hb)
        | (go_at_call 6; (with_reducible refine (HSh.out _ HB2.out).mono ?_); rintro e w3 ⟨rfl, hb⟩; have HB3 := Lib.hid (thenBelow HB2.out hb); clear hb)
        | (go_at_call 7; (with_reducible refine (HA.out _).mono ?_); rintro e w4 ⟨rfl, hb⟩; have HB4 := Lib.hid (thenBelow HB3.out hb); clear hb))
    all_goals
      go_meet
      first
        | exact ⟨true, rfl, Lib.hid (fun h => by cases h), HB2⟩
        | exact ⟨true, rfl, Lib.hid (fun h => by cases h), HB3⟩
        | exact ⟨false, rfl, Lib.hid (fun _ => ⟨H1.out (by assumption), H6.out (by trivial), HS2.out (by trivial)⟩), HB4⟩
        | exact ⟨false, rfl, Lib.hid (fun _ => ⟨H1.out rfl, H6.out (by trivial), HS2.out (by trivial)⟩), HB4⟩
  case rest =>
    obtain ⟨b, rfl, hOk, hB⟩ := hcut
    cases b with
    | true =>
      go_wp2_with (go_at_call 7; (with_reducible refine (HA.out _).mono ?_); rintro e w5 ⟨rfl, hb⟩; have HB5 := Lib.hid (thenBelow hB.out hb); clear hb)
      go_ret
      exact ⟨rfl, HB5.out⟩
    | false =>
      obtain ⟨-, hl60, hd60⟩ := hOk.out rfl
      clear HLi HSh HS2 hOk HA
      have HAt : Hid (∀ (i : Nat) (x : It), l[i]? = some x → ∃ b off, a = some ⟨b, off, none⟩ ∧ ∀ W, Below w.heap.size w W → W.cell? ⟨b, off + i * 3, none⟩ = some (.string x.key) ∧ W.cell? ⟨b, off + i * 3 + 1, none⟩ = some (.string x.val) ∧ W.cell? ⟨b, off + i * 3 + 2, none⟩ = some (.int .i64 x.kind)) := fun i x hi => HI.out.at_ hi
      have HTt : Hid (∀ (i : Nat) (d : ByteArray), ds[i]? = some d → ∃ b off, a2 = some ⟨b, off, none⟩ ∧ ∀ W, Below w.heap.size w W → W.cell? ⟨b, off + i, none⟩ = some (.string d)) := fun i d hi => text_at HT.out hi
      have HV : Hid (∀ (W : World) (x : It), Calls Try.prog 8 #[.agg #[.string x.key, .string x.val, .int .i64 x.kind]] W fun r w' => r = .returned (.bool x.ok) ∧ Below W.heap.size W w') := fun W x => rvalid_any W x
      clear HI HT
      go_wp2
      go_loopw [5, 6] (fun vx vi wr => ∃ (i n : Nat) (xa : Option Addr) (xc : Nat), i ≤ l.length ∧ vi = .int .i64 i ∧ vx = .slice xa n xc ∧ Hid (OwnI w.heap.size wr (.slice xa n xc) (putsI (l.take i))) ∧ Hid (Below w.heap.size w wr)) (fun _ vi _ => l.length - (RowKit.intOf vi).toNat)
      case atStart => exact ⟨0, 0, none, 0, Nat.zero_le _, rfl, rfl, OwnI.nil _ _, hB⟩
      case round =>
        obtain ⟨i, n, xa, xc, hi, rfl, rfl, HO, HB⟩ := hrel
        by_cases hlt : i < l.length
        · obtain ⟨x, hx⟩ : ∃ x, l[i]? = some x := ⟨_, List.getElem?_eq_getElem hlt⟩
          obtain ⟨b, off, rfl, hc⟩ := HAt.out i x hx
          obtain ⟨c0, c1, c2⟩ := hc wr HB.out
          have HC := Lib.hid hc
          have hnx := putsI_next hx
          have k1 : decide ((i : Int) < (l.length : Int)) = true := decide_eq_true (by omega)
          have k1' : decide (i < l.length) = true := decide_eq_true hlt
          have k2 : (i : Int) < (l.length : Int) := by omega
          have k3 : (0 : Int) ≤ (i : Int) := by omega
          have HV1 := Lib.hid (HV.out wr x)
          clear hx hc
          cases hok : x.ok with
          | true =>
            rw [hok] at HV1 hnx
            rw [if_pos rfl] at hnx
            have HN := Lib.hid hnx
            have HPut : Hid (∀ W, Below wr.heap.size wr W → Calls Try.prog 9 #[.slice xa n xc, .agg #[.string x.key, .string x.val, .int .i64 x.kind]] W fun e w' => ∃ ya m yc, e = .returned (.slice ya m yc) ∧ OwnI w.heap.size w' (.slice ya m yc) (putI (putsI (l.take i)) x) ∧ Below W.heap.size W w') := fun W hW => by
              have hO := HO.out.below hW
              have hlen := putsI_len l i
              refine (put_any W _ _ x hO.its hO.wide hO.plain (by omega) (putsI_right l i)).mono ?_
              rintro e w' ⟨v', rfl, h1, h2⟩
              obtain ⟨ya, m, yc, rfl⟩ := owns_shape h1.1
              exact ⟨ya, m, yc, rfl, h1.lo_ (thenBelow HB.out hW).size, h2⟩
            clear hnx hok
            go_wp2_with (first
              | (go_at_call 8; (with_reducible refine (HV1.out).mono ?_); rintro e w2 ⟨rfl, hb⟩; have HB2 := Lib.hid hb; obtain ⟨e0, e1, e2⟩ := HC.out w2 (thenBelow HB.out hb); clear hb c0 c1 c2)
              | (go_at_call 9; (with_reducible refine (HPut.out _ HB2.out).mono ?_); rintro e w3 ⟨ya, m, yc, rfl, h3, hb⟩; have HO3 := Lib.hid h3; have HB3 := Lib.hid (thenBelow HB.out (thenBelow HB2.out hb)); clear h3 hb))
            go_roundw
            case rel => exact ⟨i + 1, m, ya, yc, by omega, by go_num, rfl, by rw [HN.out]; exact HO3, HB3⟩
            case measure => simp [RowKit.intOf]; omega
          | false =>
            rw [hok] at HV1 hnx
            rw [if_neg (by simp)] at hnx
            have HN := Lib.hid hnx
            clear hnx hok
            go_wp2_with (go_at_call 8; (with_reducible refine (HV1.out).mono ?_); rintro e w2 ⟨rfl, hb⟩; have HB2 := Lib.hid hb; clear hb c0 c1 c2)
            go_roundw
            case rel => exact ⟨i + 1, n, xa, xc, by omega, by go_num, rfl, by rw [HN.out]; exact HO.out.below HB2.out, thenBelow HB.out HB2.out⟩
            case measure => simp [RowKit.intOf]; omega
        · have e : i = l.length := by omega
          subst e
          have HX0 : Hid (OwnI w.heap.size wr (.slice xa n xc) (putsI l)) := by
            have := HO.out
            rw [List.take_length] at this
            exact this
          have k1 : decide ((l.length : Int) < (l.length : Int)) = false := decide_eq_false (by omega)
          have k1' : decide (l.length < l.length) = false := decide_eq_false (by omega)
          clear hlt hi HO
          go_wp2
          go_loopw [5, 7] (fun vx vi wr => ∃ (j n : Nat) (xa : Option Addr) (xc : Nat), j ≤ ds.length ∧ vi = .int .i64 j ∧ vx = .slice xa n xc ∧ Hid (OwnI w.heap.size wr (.slice xa n xc) (dropsI (putsI l) (ds.take j))) ∧ Hid (Below w.heap.size w wr)) (fun _ vi _ => ds.length - (RowKit.intOf vi).toNat)
          case atStart => exact ⟨0, n, xa, xc, Nat.zero_le _, rfl, rfl, HX0, HB⟩
          case round =>
            clear HX0 HB
            obtain ⟨j, n, xa, xc, hj, rfl, rfl, HO, HB⟩ := hrel
            have hpl := putsI_len l l.length
            rw [List.take_length] at hpl
            by_cases hlt : j < ds.length
            · obtain ⟨d, hd⟩ : ∃ x, ds[j]? = some x := ⟨_, List.getElem?_eq_getElem hlt⟩
              obtain ⟨b, off, rfl, hc⟩ := HTt.out j d hd
              have c0 := hc wr HB.out
              have HC := Lib.hid hc
              have hnx := dropsI_next (l := putsI l) hd
              have hXr := left_right l (ds.take j)
              have hXl := dropsI_len (putsI l) (ds.take j)
              obtain ⟨X, hX⟩ : ∃ X, X = dropsI (putsI l) (ds.take j) := ⟨_, rfl⟩
              rw [← hX] at hnx hXr hXl HO
              have hnl := HO.out.len_
              have hdl := dropI_len X d
              have HN := Lib.hid hnx
              obtain ⟨h, hh⟩ : ∃ h, h = hasK X d := ⟨_, rfl⟩
              have HDr : Hid (∀ W, Below wr.heap.size wr W → Calls Try.prog 10 #[.slice xa n xc, .string d] W fun e w' => ∃ ya m yc, e = .returned (.tuple #[.slice ya m yc, .bool h]) ∧ OwnI w.heap.size w' (.slice ya m yc) (dropI X d) ∧ m ≤ n ∧ Below W.heap.size W w') := fun W hW => by
                have hO := HO.out.below hW
                refine (drop_any W _ X d hO.its hO.wide (by omega) hXr).mono ?_
                rintro e w' ⟨v', rfl, h1, h2⟩
                obtain ⟨ya, m, yc, rfl⟩ := owns_shape h1.1
                have := h1.len_
                exact ⟨ya, m, yc, by rw [hh], h1.lo_ (thenBelow HB.out hW).size, by omega, h2⟩
              have HF1 : Hid (∀ W, Below wr.heap.size wr W → Calls Try.prog 11 #[.slice xa n xc, .string d] W fun e w' => e = .returned (.tuple #[.int .i64 (lowK X d : Nat), .bool h]) ∧ Below W.heap.size W w') := fun W hW => by
                rw [hh]
                exact find_any W _ X d (HO.out.below hW).its (by omega) hXr
              have HF2 : Hid (∀ W u, OwnI w.heap.size W u (dropI X d) → Calls Try.prog 11 #[u, .string d] W fun e w' => e = .returned (.tuple #[.int .i64 (lowK (dropI X d) d : Nat), .bool false]) ∧ Below W.heap.size W w') := fun W u hu => by
                have := find_any W u (dropI X d) d hu.its (by omega) (dropI_right hXr d)
                rw [dropI_gone hXr d] at this
                exact this
              have k1 : decide ((j : Int) < (ds.length : Int)) = true := decide_eq_true (by omega)
              have k1' : decide (j < ds.length) = true := decide_eq_true hlt
              have k2 : (j : Int) < (ds.length : Int) := by omega
              have k3 : (0 : Int) ≤ (j : Int) := by omega
              have HRf := Lib.hid (Below.refl wr.heap.size wr)
              clear hd hc hnx hX hnl hdl hh
              generalize lowK X d = q1 at HF1
              generalize lowK (dropI X d) d = q2 at HF2
              cases h
              all_goals
                go_wp2_with (first
                  | (go_at_call 10; (with_reducible refine (HDr.out _ HRf.out).mono ?_); rintro e w2 ⟨ya, m, yc, rfl, h2, hmn, hb⟩; have HO2 := Lib.hid h2; have HB2 := Lib.hid hb; have d1 := HC.out w2 (thenBelow HB.out hb); have m1 : decide ((n : Int) < (m : Int)) = false := (decide_eq_false (by omega)); have m1' : decide (n < m) = false := (decide_eq_false (by omega)); clear h2 hb c0)
                  | (go_at_call 11; (with_reducible refine (HF1.out _ HB2.out).mono ?_); rintro e w3 ⟨rfl, hb⟩; have HO3 := Lib.hid (HO2.out.below hb); have HB3 := Lib.hid (thenBelow HB2.out hb); have d2 := HC.out w3 (thenBelow HB.out (thenBelow HB2.out hb)); clear hb d1)
                  | (go_at_call 11; (with_reducible refine (HF2.out _ _ HO3.out).mono ?_); rintro e w4 ⟨rfl, hb⟩; have HO4 := Lib.hid (HO3.out.below hb); have HB4 := Lib.hid (thenBelow HB.out (thenBelow HB3.out hb)); clear hb d2))
                go_roundw
                case rel => exact ⟨j + 1, m, ya, yc, by omega, by go_num, rfl, by rw [HN.out]; exact HO4, HB4⟩
                case measure => simp [RowKit.intOf]; omega
            · have e : j = ds.length := by omega
              subst e
              have HX1 : Hid (OwnI w.heap.size wr (.slice xa n xc) (dropsI (putsI l) ds)) := by
                have := HO.out
                rw [List.take_length] at this
                exact this
              have hXr := left_right l ds
              have hXl := dropsI_len (putsI l) ds
              have HH1 : Hid (∀ (i : Nat) (x : It), l[i]? = some x → x.ok = true → (hasK (dropsI (putsI l) ds) x.key = true ↔ x.key ∉ ds)) := fun i x hx hok => left_has hx hok
              have HH2 : Hid (∀ (i : Nat) (x : It), l[i]? = some x → x.ok = true → x.key ∉ ds → (∀ (j : Nat) (z : It), i < j → l[j]? = some z → z.ok = true → z.key ≠ x.key) → (dropsI (putsI l) ds)[lowK (dropsI (putsI l) ds) x.key]? = some x) := fun i x hx hok hd hl => left_last hx hok hd hl
              obtain ⟨X, hX⟩ : ∃ X, X = dropsI (putsI l) ds := ⟨_, rfl⟩
              rw [← hX] at hXr hXl HX1 HH1 HH2
              have HXr := Lib.hid hXr
              have HXl : Hid (X.length ≤ 60) := by show _ ≤ _; omega
              have HRt := Lib.hid (right_d wr _ X HX1.out.its true ⟨fun _ => hXr, fun _ => rfl⟩)
              have k1 : decide ((ds.length : Int) < (ds.length : Int)) = false := decide_eq_false (by omega)
              have k1' : decide (ds.length < ds.length) = false := decide_eq_false (by omega)
              clear hlt hj HO hX hpl hXr hXl
              go_wp2_with (go_at_call 12; (with_reducible refine (HRt.out).mono ?_); rintro e w2 ⟨rfl, hb⟩; have HX2 := Lib.hid (HX1.out.below hb); have HB2 := Lib.hid (thenBelow HB.out hb); clear hb)
              clear HX1 HB HRt
              go_loopw [14] (fun vi wr => ∃ i : Nat, i ≤ l.length ∧ vi = .int .i64 i ∧ Hid (OwnI w.heap.size wr (.slice xa n xc) X) ∧ Hid (Below w.heap.size w wr)) (fun vi _ => l.length - (RowKit.intOf vi).toNat)
              case atStart => exact ⟨0, Nat.zero_le _, rfl, HX2, HB2⟩
              case round =>
                clear HX2 HB2
                obtain ⟨i, hi, rfl, HO, HB⟩ := hrel
                by_cases hlt : i < l.length
                · obtain ⟨x, hx⟩ : ∃ x, l[i]? = some x := ⟨_, List.getElem?_eq_getElem hlt⟩
                  obtain ⟨b, off, rfl, hc⟩ := HAt.out i x hx
                  obtain ⟨c0, c1, c2⟩ := hc wr HB.out
                  have HC := Lib.hid hc
                  have HXi := Lib.hid hx
                  have HAt2 : Hid (∀ (j : Nat) (z : It), l[j]? = some z → ∃ b' off', some (⟨b, off, none⟩ : Addr) = some ⟨b', off', none⟩ ∧ ∀ W, Below w.heap.size w W → W.cell? ⟨b', off' + j * 3, none⟩ = some (.string z.key) ∧ W.cell? ⟨b', off' + j * 3 + 1, none⟩ = some (.string z.val) ∧ W.cell? ⟨b', off' + j * 3 + 2, none⟩ = some (.int .i64 z.kind)) := HAt
                  have k1 : decide ((i : Int) < (l.length : Int)) = true := decide_eq_true (by omega)
                  have k1' : decide (i < l.length) = true := decide_eq_true hlt
                  have k2 : (i : Int) < (l.length : Int) := by omega
                  have k3 : (0 : Int) ≤ (i : Int) := by omega
                  have HV1 := Lib.hid (HV.out wr x)
                  clear hx hc
                  cases hok : x.ok with
                  | false =>
                    rw [hok] at HV1
                    clear hok
                    go_wp2_with (go_at_call 8; (with_reducible refine (HV1.out).mono ?_); rintro e w2 ⟨rfl, hb⟩; have HO2 := Lib.hid (HO.out.below hb); have HB2 := Lib.hid (thenBelow HB.out hb); clear hb c0 c1 c2)
                    go_roundw
                    case rel => exact ⟨i + 1, by omega, by go_num, HO2, HB2⟩
                    case measure => simp [RowKit.intOf]; omega
                  | true =>
                    rw [hok] at HV1
                    have HOK := Lib.hid hok
                    clear hok
                    go_wp2_with (go_at_call 8; (with_reducible refine (HV1.out).mono ?_); rintro e w2 ⟨rfl, hb⟩; have HO2 := Lib.hid (HO.out.below hb); have HB2 := Lib.hid (thenBelow HB.out hb); clear hb c0 c1 c2)
                    clear HO HB HV1
                    go_loopw [15, 17] (fun vl vk wr => ∃ (k : Nat) (la : Bool), i + 1 ≤ k ∧ k ≤ l.length ∧ vk = .int .i64 k ∧ vl = .bool la ∧ Hid (la = true ↔ ∀ (j : Nat) (z : It), i < j → j < k → l[j]? = some z → z.ok = true → z.key ≠ x.key) ∧ Hid (OwnI w.heap.size wr (.slice xa n xc) X) ∧ Hid (Below w.heap.size w wr)) (fun _ vk _ => l.length - (RowKit.intOf vk).toNat)
                    case atStart => exact ⟨i + 1, true, Nat.le_refl _, hlt, by go_num, rfl, ⟨fun _ j z h1 h2 => by omega, fun _ => rfl⟩, HO2, HB2⟩
                    case round =>
                      clear HO2 HB2
                      obtain ⟨k, la, hk1, hk2, rfl, rfl, HLa, HO, HB⟩ := hrel
                      by_cases hkl : k < l.length
                      · obtain ⟨z, hz⟩ : ∃ x, l[k]? = some x := ⟨_, List.getElem?_eq_getElem hkl⟩
                        have j1 : decide ((k : Int) < (l.length : Int)) = true := decide_eq_true (by omega)
                        have j1' : decide (k < l.length) = true := decide_eq_true hkl
                        have j2 : (k : Int) < (l.length : Int) := by omega
                        have j3 : (0 : Int) ≤ (k : Int) := by omega
                        have HCz : Hid (∀ W, Below w.heap.size w W → W.cell? ⟨b, off + k * 3, none⟩ = some (.string z.key) ∧ W.cell? ⟨b, off + k * 3 + 1, none⟩ = some (.string z.val) ∧ W.cell? ⟨b, off + k * 3 + 2, none⟩ = some (.int .i64 z.kind) ∧ W.cell? ⟨b, off + i * 3, none⟩ = some (.string x.key)) := fun W hW => by
                          obtain ⟨b', off', e, hh⟩ := HAt2.out k z hz
                          simp only [Option.some.injEq, Addr.mk.injEq, and_true] at e
                          obtain ⟨rfl, rfl⟩ := e
                          obtain ⟨h1, h2, h3⟩ := hh W hW
                          exact ⟨h1, h2, h3, (HC.out W hW).1⟩
                        have HZ := Lib.hid hz
                        clear hz
                        cases la with
                        | false =>
                          have HLa2 : Hid (false = true ↔ ∀ (j : Nat) (z : It), i < j → j < k + 1 → l[j]? = some z → z.ok = true → z.key ≠ x.key) := ⟨fun h => (by cases h), fun h => HLa.out.2 (fun j z h1 h2 => h j z h1 (by omega))⟩
                          go_upto_region 28 with fail
                          go_quiet (fail)
                          go_wp2
                          go_roundw
                          case rel => exact ⟨k + 1, false, by omega, by omega, by go_num, rfl, HLa2, HO.out.below ⟨rfl, rfl, rfl, Nat.le_refl _, fun _ _ => rfl⟩, thenBelow HB.out ⟨rfl, rfl, rfl, Nat.le_refl _, fun _ _ => rfl⟩⟩
                          case measure => simp [RowKit.intOf]; omega
                        | true =>
                          by_cases hzk : z.key = x.key
                          · have e1 : (z.key.toList == x.key.toList) = true := same_true hzk
                            have HLa2 : Hid ((!z.ok) = true ↔ ∀ (j : Nat) (y : It), i < j → j < k + 1 → l[j]? = some y → y.ok = true → y.key ≠ x.key) := by
                              constructor
                              · intro h j y h1 h2 hy hyo
                                by_cases q : j = k
                                · subst q
                                  rw [HZ.out] at hy
                                  obtain rfl := Option.some.inj hy
                                  rw [hyo] at h
                                  cases h
                                · exact HLa.out.1 rfl j y h1 (by omega) hy hyo
                              · intro h
                                cases hzo : z.ok
                                · rfl
                                · exact absurd hzk (h k z (by omega) (by omega) HZ.out hzo)
                            have HVz : Hid (∀ W, Calls Try.prog 8 #[.agg #[.string z.key, .string z.val, .int .i64 z.kind]] W fun r w' => r = .returned (.bool z.ok) ∧ Below W.heap.size W w') := fun W => HV.out W z
                            have HBd := Lib.hid (thenBelow HB.out (Below.refl _ _).drew)
                            have HRf := Lib.hid (Below.refl wr.heap.size wr)
                            have HRd := Lib.hid ((Below.refl wr.heap.size wr).drew)
                            clear hzk
                            generalize z.ok = zo at *
                            go_upto_region 28 with fail
                            go_region_held3 (fun W => W.cell? ⟨b, off + k * 3, none⟩ = some (.string z.key) ∧ W.cell? ⟨b, off + k * 3 + 1, none⟩ = some (.string z.val) ∧ W.cell? ⟨b, off + k * 3 + 2, none⟩ = some (.int .i64 z.kind) ∧ W.cell? ⟨b, off + i * 3, none⟩ = some (.string x.key)) (first | exact HCz.out _ HBd.out | exact HCz.out _ HB.out | exact HCz.out _ HB5.out) ((go_at_call 8; (with_reducible refine (HVz.out _).mono ?_); rintro e w5 ⟨rfl, hb⟩; have HR5 : Hid (Below wr.heap.size wr w5) := (by first | exact thenBelow HRd.out hb | exact hb); have HB5 := Lib.hid (thenBelow HB.out HR5.out); clear hb))
                            all_goals
                              go_wp2
                              go_roundw
                              case rel => exact ⟨k + 1, !zo, by omega, by omega, by go_num, rfl, HLa2, HO.out.below HR5.out, HB5⟩
                              case measure => simp [RowKit.intOf]; omega
                          · have e1 : (z.key.toList == x.key.toList) = false := same_false hzk
                            have HLa2 : Hid (true = true ↔ ∀ (j : Nat) (y : It), i < j → j < k + 1 → l[j]? = some y → y.ok = true → y.key ≠ x.key) := by
                              refine ⟨fun _ j y h1 h2 hy hyo => ?_, fun _ => rfl⟩
                              by_cases q : j = k
                              · subst q
                                rw [HZ.out] at hy
                                obtain rfl := Option.some.inj hy
                                exact hzk
                              · exact HLa.out.1 rfl j y h1 (by omega) hy hyo
                            obtain ⟨d0, -, -, d1⟩ := HCz.out wr HB.out
                            clear hzk
                            go_upto_region 28 with fail
                            go_quiet (fail)
                            go_wp2
                            go_roundw
                            case rel => exact ⟨k + 1, true, by omega, by omega, by go_num, rfl, HLa2, HO.out.below ⟨rfl, rfl, rfl, Nat.le_refl _, fun _ _ => rfl⟩, thenBelow HB.out ⟨rfl, rfl, rfl, Nat.le_refl _, fun _ _ => rfl⟩⟩
                            case measure => simp [RowKit.intOf]; omega
                      · have e : k = l.length := by omega
                        subst e
                        have HLast : Hid (la = true ↔ ∀ (j : Nat) (z : It), i < j → l[j]? = some z → z.ok = true → z.key ≠ x.key) := ⟨fun h j z h1 hz => HLa.out.1 h j z h1 (List.getElem?_eq_some_iff.1 hz).1 hz, fun h => HLa.out.2 (fun j z h1 _ => h j z h1)⟩
                        have j1 : decide ((l.length : Int) < (l.length : Int)) = false := decide_eq_false (by omega)
                        have j1' : decide (l.length < l.length) = false := decide_eq_false (by omega)
                        have HO3 := HO
                        have HB3 := HB
                        clear hkl hk1 hk2 HLa HO HB
                        go_wp2
                        go_loopw [16, 18] (fun vg vk wr => ∃ (k : Nat) (g : Bool), k ≤ ds.length ∧ vk = .int .i64 k ∧ vg = .bool g ∧ Hid (g = true ↔ ∃ j : Nat, j < k ∧ ds[j]? = some x.key) ∧ Hid (OwnI w.heap.size wr (.slice xa n xc) X) ∧ Hid (Below w.heap.size w wr)) (fun _ vk _ => ds.length - (RowKit.intOf vk).toNat)
                        case atStart => exact ⟨0, false, Nat.zero_le _, rfl, rfl, ⟨fun h => (by cases h), fun ⟨j, h, _⟩ => absurd h (Nat.not_lt_zero _)⟩, HO3, HB3⟩
                        case round =>
                          clear HO3 HB3
                          obtain ⟨k, g, hk, rfl, rfl, HG, HO, HB⟩ := hrel
                          by_cases hkl : k < ds.length
                          · obtain ⟨d, hd⟩ : ∃ x, ds[k]? = some x := ⟨_, List.getElem?_eq_getElem hkl⟩
                            obtain ⟨tb, toff, rfl, hct⟩ := HTt.out k d hd
                            have d0 := hct wr HB.out
                            have d1 := (HC.out wr HB.out).1
                            have j1 : decide ((k : Int) < (ds.length : Int)) = true := decide_eq_true (by omega)
                            have j1' : decide (k < ds.length) = true := decide_eq_true hkl
                            have j2 : (k : Int) < (ds.length : Int) := by omega
                            have j3 : (0 : Int) ≤ (k : Int) := by omega
                            have HDk := Lib.hid hd
                            clear hd hct
                            cases g with
                            | true =>
                              have HG2 : Hid (true = true ↔ ∃ j : Nat, j < k + 1 ∧ ds[j]? = some x.key) := ⟨fun _ => by obtain ⟨j, h1, h2⟩ := HG.out.1 rfl; exact ⟨j, by omega, h2⟩, fun _ => rfl⟩
                              go_upto_region 32 with fail
                              go_quiet (fail)
                              go_wp2
                              go_roundw
                              case rel => exact ⟨k + 1, true, by omega, by go_num, rfl, HG2, HO.out.below ⟨rfl, rfl, rfl, Nat.le_refl _, fun _ _ => rfl⟩, thenBelow HB.out ⟨rfl, rfl, rfl, Nat.le_refl _, fun _ _ => rfl⟩⟩
                              case measure => simp [RowKit.intOf]; omega
                            | false =>
                              by_cases hdk : d = x.key
                              · have e1 : (d.toList == x.key.toList) = true := same_true hdk
                                have HG2 : Hid (true = true ↔ ∃ j : Nat, j < k + 1 ∧ ds[j]? = some x.key) := ⟨fun _ => ⟨k, by omega, by rw [HDk.out, hdk]⟩, fun _ => rfl⟩
                                clear hdk
                                go_upto_region 32 with fail
                                go_quiet (fail)
                                go_wp2
                                go_roundw
                                case rel => exact ⟨k + 1, true, by omega, by go_num, rfl, HG2, HO.out.below ⟨rfl, rfl, rfl, Nat.le_refl _, fun _ _ => rfl⟩, thenBelow HB.out ⟨rfl, rfl, rfl, Nat.le_refl _, fun _ _ => rfl⟩⟩
                                case measure => simp [RowKit.intOf]; omega
                              · have e1 : (d.toList == x.key.toList) = false := same_false hdk
                                have HG2 : Hid (false = true ↔ ∃ j : Nat, j < k + 1 ∧ ds[j]? = some x.key) := by
                                  refine ⟨fun h => (by cases h), fun ⟨j, h1, h2⟩ => ?_⟩
                                  by_cases q : j = k
                                  · subst q
                                    rw [HDk.out] at h2
                                    exact absurd (Option.some.inj h2) hdk
                                  · exact HG.out.2 ⟨j, by omega, h2⟩
                                clear hdk
                                go_upto_region 32 with fail
                                go_quiet (fail)
                                go_wp2
                                go_roundw
                                case rel => exact ⟨k + 1, false, by omega, by go_num, rfl, HG2, HO.out.below ⟨rfl, rfl, rfl, Nat.le_refl _, fun _ _ => rfl⟩, thenBelow HB.out ⟨rfl, rfl, rfl, Nat.le_refl _, fun _ _ => rfl⟩⟩
                                case measure => simp [RowKit.intOf]; omega
                          · have e : k = ds.length := by omega
                            subst e
                            have hgi : (g = true ↔ x.key ∈ ds) := by
                              rw [mem_at]
                              exact ⟨fun h => by obtain ⟨j, _, h2⟩ := HG.out.1 h; exact ⟨j, h2⟩, fun ⟨j, h2⟩ => HG.out.2 ⟨j, (List.getElem?_eq_some_iff.1 h2).1, h2⟩⟩
                            have hhg : hasK X x.key = !g := by
                              have h1 := HH1.out i x HXi.out HOK.out
                              rw [Bool.eq_iff_iff, h1, ← hgi]
                              cases g <;> simp
                            have HFx : Hid (∀ W, Below wr.heap.size wr W → Calls Try.prog 11 #[.slice xa n xc, .string x.key] W fun e w' => e = .returned (.tuple #[.int .i64 (lowK X x.key : Nat), .bool (!g)]) ∧ Below W.heap.size W w') := fun W hW => by
                              have := find_any W _ X x.key (HO.out.below hW).its (by have := HXl.out; omega) HXr.out
                              rw [hhg] at this
                              exact this
                            have HAtX : Hid (g = false → la = true → X[lowK X x.key]? = some x) := fun h1 h2 => HH2.out i x HXi.out HOK.out (fun q => by rw [hgi.2 q] at h1; cases h1) (HLast.out.1 h2)
                            have hlx : g = false → lowK X x.key < X.length := fun h1 => by
                              rw [h1] at hhg
                              obtain ⟨z, hz, _⟩ := lowK_hit HXr.out (hasK_iff.1 hhg)
                              exact (List.getElem?_eq_some_iff.1 hz).1
                            have HLx := Lib.hid hlx
                            have HNl := Lib.hid HO.out.len_
                            have HOA := Lib.hid (fun (q : Nat) (y : It) (hy : X[q]? = some y) => HO.out.its.at_ hy)
                            have j1 : decide ((ds.length : Int) < (ds.length : Int)) = false := decide_eq_false (by omega)
                            have j1' : decide (ds.length < ds.length) = false := decide_eq_false (by omega)
                            have d1 := (HC.out wr HB.out).1
                            have HRf := Lib.hid (Below.refl wr.heap.size wr)
                            obtain ⟨q, hq⟩ : ∃ q, q = lowK X x.key := ⟨_, rfl⟩
                            rw [← hq] at HFx HAtX HLx
                            have q0 : decide ((q : Int) < 0) = false := decide_eq_false (by omega)
                            clear hgi hhg hlx hkl hk HG hq
                            cases g with
                            | true =>
                              go_upto_region 34 with (go_at_call 11; (with_reducible refine (HFx.out _ HRf.out).mono ?_); rintro e w4 ⟨rfl, hb⟩; have HO4 := Lib.hid (HO.out.below hb); have HB4 := Lib.hid (thenBelow HB.out hb); clear hb d1)
                              go_quiet (fail)
                              go_wp2
                              go_roundw
                              case rel => exact ⟨i + 1, by omega, by go_num, HO4.out.below ⟨rfl, rfl, rfl, Nat.le_refl _, fun _ _ => rfl⟩, thenBelow HB4.out ⟨rfl, rfl, rfl, Nat.le_refl _, fun _ _ => rfl⟩⟩
                              case measure => simp [RowKit.intOf]; omega
                            | false =>
                              have hqn : q < n := by rw [HNl.out]; exact HLx.out rfl
                              have q1 : decide ((n : Int) ≤ (q : Int)) = false := decide_eq_false (by omega)
                              have q1' : decide (n ≤ q) = false := decide_eq_false (by omega)
                              have q2 : (q : Int) < (n : Int) := by omega
                              have q3 : (0 : Int) ≤ (q : Int) := by omega
                              cases la with
                              | false =>
                                go_upto_region 34 with (go_at_call 11; (with_reducible refine (HFx.out _ HRf.out).mono ?_); rintro e w4 ⟨rfl, hb⟩; have HO4 := Lib.hid (HO.out.below hb); have HB4 := Lib.hid (thenBelow HB.out hb); clear hb d1)
                                go_quiet (fail)
                                go_wp2
                                go_roundw
                                case rel => exact ⟨i + 1, by omega, by go_num, HO4.out.below ⟨rfl, rfl, rfl, Nat.le_refl _, fun _ _ => rfl⟩, thenBelow HB4.out ⟨rfl, rfl, rfl, Nat.le_refl _, fun _ _ => rfl⟩⟩
                                case measure => simp [RowKit.intOf]; omega
                              | true =>
                                obtain ⟨xb, xo, rfl, hcx⟩ := HOA.out q x (HAtX.out rfl rfl)
                                have HCx := Lib.hid hcx
                                have e1 : (x.key.toList == x.key.toList) = true := beq_self_eq_true _
                                have e2 : (x.val.toList == x.val.toList) = true := beq_self_eq_true _
                                have e3 : (x.kind == x.kind) = true := beq_self_eq_true _
                                clear hcx
                                go_upto_region 34 with (go_at_call 11; (with_reducible refine (HFx.out _ HRf.out).mono ?_); rintro e w4 ⟨rfl, hb⟩; have HO4 := Lib.hid (HO.out.below hb); have HB4 := Lib.hid (thenBelow HB.out hb); obtain ⟨f0, f1, f2⟩ := HCx.out w4 hb; obtain ⟨g0, g1, g2⟩ := HC.out w4 HB4.out; clear hb d1)
                                go_quiet (fail)
                                go_wp2
                                go_roundw
                                case rel => exact ⟨i + 1, by omega, by go_num, HO4.out.below ⟨rfl, rfl, rfl, Nat.le_refl _, fun _ _ => rfl⟩, thenBelow HB4.out ⟨rfl, rfl, rfl, Nat.le_refl _, fun _ _ => rfl⟩⟩
                                case measure => simp [RowKit.intOf]; omega
                · have e : i = l.length := by omega
                  subst e
                  have k2 : decide ((l.length : Int) < (l.length : Int)) = false := decide_eq_false (by omega)
                  have k2' : decide (l.length < l.length) = false := decide_eq_false (by omega)
                  clear hlt hi
                  go_wp2
                  go_ret
                  exact ⟨rfl, HB.out⟩

end Go.Proofs.Ytloajjaaidmaiaa.P9
