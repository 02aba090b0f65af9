/-
  P1001: the walk of the statement TwigTells.
-/
import Derived.Test.YthihjkdankbnjaaGreatX12
import Derived.Test.YthihjkdankbnjaaGreatX13
import Derived.Test.YthihjkdankbnjaaGreatX3
import Derived.Test.YthihjkdankbnjaaGreatT8
import Derived.Test.YthihjkdankbnjaaGreatAl10
import Derived.Test.YthihjkdankbnjaaGreatArgs10
import Derived.Deep.CutRange
import Derived.Test.YthihjkdankbnjaaGreatT5
namespace Go.Proofs.YthihjkdankbnjaaGreat.P10
open Go Go.RowKit Go.Lib Go.Proofs.YthihjkdankbnjaaGreat.PK
open Go.Proofs.YthihjkdankbnjaaGreat.P0 (same_true same_false)

theorem readP_len (b : ByteArray) : (readP b).1.length ≤ 255 := by
  have h := runP_len ((PP.getNum 1 b 0).2.1, (PP.getNum 1 b 0).2.2, []) (PP.getNum 1 b 0).1.toNat
  have hn := gnum1_range b 0
  have e : (allP b).2.2.length = (PP.getNum 1 b 0).1.toNat := by
    unfold allP
    rw [h]
    simp
  unfold readP
  by_cases h1 : PP.getFin (allP b).1 (allP b).2.1 = 0
  · rw [if_pos h1]
    by_cases h2 : (layR (allP b).2.2).2 = 0 ∧ (layR (allP b).2.2).1 = b
    · rw [if_pos h2]
      show (allP b).2.2.length ≤ 255
      omega
    · rw [if_neg h2]
      simp
  · rw [if_neg h1]
    simp
theorem BS.lent {a w : World} {b n : Nat} {T R : List Row} {g q : Nat} {l : List It} (h : BS a b n T R w) (hx : lentRow g q l ∈ R) : LentT a.heap.size w (.slice (some ⟨g, 0, none⟩) l.length q) l := lentT_of_row (h.row hx)
theorem BS.own {a w : World} {b n : Nat} {T R : List Row} {v : Value} {l : List It} (h : BS a b n T R w) (hx : tRow kKids v (cellsI l) ∈ R) (hl : l.length ≤ 1000000) : OwnI a.heap.size w v l := row_own (h.row hx) hl
theorem BS.own2 {a w : World} {b n : Nat} {T R : List Row} {v : Value} {l : List It} (h : BS a b n T R w) (hx : tRow kKids v (cellsI l) ∈ T) (hl : l.length ≤ 1000000) : OwnI a.heap.size w v l := row_own (h.kept hx) hl

set_option maxRecDepth 100000 in
set_option maxHeartbeats 4000000 in
theorem tells_walk (w : World) (v : Value) (l : List It) (hIW : KidsA w v l) (b : ByteArray) :
    Calls Tryz.prog 3 #[v, .string b] w fun e w' => e = .returned (.bool true) ∧ Below w.heap.size w w' := by
  obtain ⟨hI, -⟩ := hIW
  have HA := Lib.hid (fun w => alive_any w)
  have HLi := Lib.hid (light_any w v l hI)
  have HI := Lib.hid hI
  obtain ⟨a0, c, rfl⟩ := hI.slice
  clear hI
  go_enter Tryz.func3, Tryz.ntmps3
  go_upto_region 1 with fail
  go_cut [28] from 17 to 28 (fun v W => ∃ d, v = .bool d ∧ Hid (d = false → LightI l ∧ b.size ≤ 600) ∧ Hid (Below w.heap.size w W))
  case first =>
    obtain ⟨d6, hd6⟩ : ∃ d, d = decide (b.size ≤ 600) := ⟨_, rfl⟩
    have b6 : decide ((600 : Int) < (b.size : Int)) = !d6 := by
      rw [hd6]
      by_cases q : b.size ≤ 600
      · rw [decide_eq_true q]; exact decide_eq_false (by omega)
      · rw [decide_eq_false q]; exact decide_eq_true (by omega)
    have b6' : decide (600 < b.size) = !d6 := by
      rw [hd6]
      by_cases q : b.size ≤ 600
      · rw [decide_eq_true q]; exact decide_eq_false (by omega)
      · rw [decide_eq_false q]; exact decide_eq_true (by omega)
    have H6 : Hid (d6 = true → b.size ≤ 600) := fun h => by rw [hd6] at h; exact of_decide_eq_true h
    clear hd6
    cases d6
    all_goals
      simp only [Bool.not_true, Bool.not_false] at b6 b6'
      go_wp2_with (first
        | (go_at_call 4; (with_reducible refine HLi.out.mono ?_); rintro e w2 ⟨⟨b1, rfl, h1⟩, hb⟩; have H1 := Lib.hid h1; have HB2 := Lib.hid hb; clear h1 hb)
        | (go_at_call 5; (with_reducible refine (HA.out _).mono ?_); rintro e w4 ⟨rfl, hb⟩; have HB4 := Lib.hid (thenBelow HB2.out hb); clear hb))
    all_goals
      go_meet
      first
        | exact ⟨true, rfl, Lib.hid (fun h => by cases h), HB2⟩
        | exact ⟨false, rfl, Lib.hid (fun _ => ⟨H1.out (by assumption), H6.out (by trivial)⟩), HB4⟩
        | exact ⟨false, rfl, Lib.hid (fun _ => ⟨H1.out rfl, H6.out (by trivial)⟩), HB4⟩
  case rest =>
    obtain ⟨d, rfl, hOk, hB⟩ := hcut
    cases d with
    | true =>
      go_wp2_with (go_at_call 5; (with_reducible refine (HA.out _).mono ?_); rintro e w5 ⟨rfl, hb⟩; have HB5 := Lib.hid (thenBelow hB.out hb); clear hb)
      go_ret
      exact ⟨rfl, HB5.out⟩
    | false =>
      obtain ⟨hlo, hb6⟩ := hOk.out rfl
      have h300 := hlo.1
      have h6000 := hlo.2
      obtain ⟨a, ha⟩ : ∃ a, a = wc := ⟨_, rfl⟩
      have HIa : Hid (ItsIn a (.slice a0 l.length c) l) := by rw [ha]; exact HI.out.below hB.out
      have HBa : Hid (Below w.heap.size w a) := by rw [ha]; exact hB.out
      have HS0 : Hid (BS a wc.heap.size 0 [] [] (wc.alloc (.cells book0.toArray 36))) := by rw [ha]; exact BS.start (Rws.nil wc)
      obtain ⟨bb, hbb⟩ : ∃ bb, bb = wc.heap.size := ⟨_, rfl⟩
      have HLe : Hid (∀ W, Below a.heap.size a W → Calls Tryz.prog 6 #[.slice a0 l.length c] W fun e w' => ∃ g q, e = .returned (.slice (some ⟨g, 0, none⟩) l.length q) ∧ (lentRow g q l).At w' W.heap.size ∧ Below W.heap.size W w') := fun W hW => lent_row W _ l (HIa.out.below hW) (by omega)
      have HLy : Hid (∀ W u, ItsIn W u l → Calls Tryz.prog 7 #[u] W fun e w' => e = .returned (.tuple #[.string (layR l).1, .int .i64 (layR l).2]) ∧ Below W.heap.size W w') := fun W u hu => lay_any W u l hu (by omega)
      have HRy : Hid (∀ W, Below a.heap.size a W → Calls Tryz.prog 8 #[.slice a0 l.length c] W fun e w' => e = .returned (.tuple #[.string (layR l).1, .int .i64 (layR l).2]) ∧ Below W.heap.size W w') := fun W hW => rlay_any W _ l (HIa.out.below hW) (by omega)
      have HRd : Hid (∀ W, Calls Tryz.prog 9 #[.string b] W fun e w' => ∃ xa xn xc, e = .returned (.tuple #[.slice xa xn xc, .int .i64 (readR b).2]) ∧ (tRow kKids (.slice xa xn xc) (cellsI (readR b).1)).At w' W.heap.size ∧ Below W.heap.size W w') := fun W => by
        have := read_any W b (by omega)
        rw [read_same] at this
        refine this.mono ?_
        rintro e w' ⟨v, rfl, h1, h2⟩
        obtain ⟨xa, xn, xc, rfl⟩ := owns_shape h1.1
        exact ⟨xa, xn, xc, rfl, h1.row, h2⟩
      have HRr : Hid (∀ W, Calls Tryz.prog 10 #[.string b] W fun e w' => ∃ xa xn xc, e = .returned (.tuple #[.slice xa xn xc, .int .i64 (readR b).2]) ∧ (tRow kKids (.slice xa xn xc) (cellsI (readR b).1)).At w' W.heap.size ∧ Below W.heap.size W w') := fun W => by
        refine (rread_any W b (by omega)).mono ?_
        rintro e w' ⟨v, rfl, h1, h2⟩
        obtain ⟨xa, xn, xc, rfl⟩ := owns_shape h1.1
        exact ⟨xa, xn, xc, rfl, h1.row, h2⟩
      have hLl : (readR b).1.length ≤ 255 := by rw [← read_same]; exact readP_len b
      obtain ⟨L, hL⟩ : ∃ L, L = (readR b).1 := ⟨_, rfl⟩
      obtain ⟨f, hf⟩ : ∃ f, f = (readR b).2 := ⟨_, rfl⟩
      obtain ⟨S, hS⟩ : ∃ S, S = (layR l).1 := ⟨_, rfl⟩
      obtain ⟨f1, hf1⟩ : ∃ f, f = (layR l).2 := ⟨_, rfl⟩
      rw [← hL, ← hf] at HRd HRr
      rw [← hL] at hLl
      rw [← hS, ← hf1] at HLy HRy
      have HZ : Hid (∀ W u, ItsIn W u l → Calls Tryz.prog 13 #[u] W fun e w' => e = .returned (.int .i64 ((1 + sumI l : Nat) : Int)) ∧ Below W.heap.size W w') := fun W u hu => size_any W u l hu (by omega)
      have HZr : Hid (∀ W, Below a.heap.size a W → Calls Tryz.prog 14 #[.slice a0 l.length c] W fun e w' => e = .returned (.int .i64 ((1 + sumI l : Nat) : Int)) ∧ ∃ q, w' = W.drewN q) := fun W hW => rsize_any W _ l (HIa.out.below hW) (by omega)
      obtain ⟨z, hz⟩ : ∃ z, z = 1 + sumI l := ⟨_, rfl⟩
      rw [← hz] at HZ HZr
      have HSa : Hid (∀ W u v, ItsIn W u L → ItsIn W v L → Calls Tryz.prog 12 #[u, v] W fun e w' => e = .returned (.bool true) ∧ Below W.heap.size W w') := fun W u v h1 h2 => same_its W u v L h1 h2
      have HSt : Hid (∀ W u, LentT a.heap.size W u l → Below a.heap.size a W → Calls Tryz.prog 15 #[u, .slice a0 l.length c] W fun e w' => e = .returned (.bool true) ∧ Below W.heap.size W w') := fun W u h1 h2 => stays_any W u _ l h1 (HIa.out.below h2)
      have b1 : (S.toList == S.toList) = true := beq_self_eq_true _
      have b2 : (f1 != f1) = false := by simp
      have b3 : (f != f) = false := by simp
      have b4 : ((z : Int) != (z : Int)) = false := by simp
      clear hL hf hS hf1 hz hlo HLi hOk HI HA hb6 ha
      go_wp2
      rw [← hbb] at HS0 ⊢
      clear hbb hB
      go_loopw [6] (fun vk wr => ∃ k : Nat, k ≤ 2 ∧ vk = .int .i64 k ∧ Hid (∃ T, BS a bb k T [] wr)) (fun vk _ => 2 - (RowKit.intOf vk).toNat)
      case atStart => exact ⟨0, by omega, rfl, ⟨_, HS0.out⟩⟩
      case round =>
        clear HS0
        obtain ⟨k, hk, rfl, HS⟩ := hrel
        obtain ⟨T, hS⟩ := HS.out
        have HS0 := Lib.hid hS
        clear HS hS
        by_cases hlt : k < 2
        · have k1 : decide ((k : Int) < 2) = true := decide_eq_true (by omega)
          have k1' : decide (k < 2) = true := decide_eq_true hlt
          go_wp2_with (first
            | (go_at_call 6; (with_reducible refine (HLe.out _ HS0.out.below).mono ?_); rintro e w1 ⟨g, q, rfl, h1, hb⟩; have HS1 := Lib.hid (HS0.out.with_ hb h1); clear h1 hb)
            | (go_at_call 7; (with_reducible refine (HLy.out _ _ (HS1.out.lent (by simp)).its).mono ?_); rintro e w2 ⟨rfl, hb⟩; have HS2 := Lib.hid (HS1.out.over hb); clear hb)
            | (go_at_call 8; (with_reducible refine (HRy.out _ HS2.out.below).mono ?_); rintro e w3 ⟨rfl, hb⟩; have HS3 := Lib.hid (HS2.out.over hb); clear hb)
            | (go_at_call 9; (with_reducible refine (HRd.out _).mono ?_); rintro e w4 ⟨xa, xn, xc, rfl, h1, hb⟩; have HS4 := Lib.hid (HS3.out.with_ hb h1); clear h1 hb)
            | (go_at_call 10; (with_reducible refine (HRr.out _).mono ?_); rintro e w5 ⟨ya, yn, yc, rfl, h1, hb⟩; have HS5 := Lib.hid ((HS4.out.with_ hb h1).perm (List.Perm.swap _ _ _)); clear h1 hb)
            | (go_at_call 11; (with_reducible refine (HS5.out.keep (by omega) (by omega) ⟨_, _, _, rfl⟩).mono ?_); rintro e w6 ⟨rfl, h1⟩; have HS6 := Lib.hid h1; clear h1)
            | (go_at_call 12; (with_reducible refine (HSa.out _ _ _ (HS6.out.own2 (by simp) (by omega)).its (HS6.out.own (by simp) (by omega)).its).mono ?_); rintro e w7 ⟨rfl, hb⟩; have HS7 := Lib.hid (HS6.out.over hb); clear hb)
            | (go_at_call 13; (with_reducible refine (HZ.out _ _ (HS7.out.lent (g := g) (q := q) (l := l) (by simp)).its).mono ?_); rintro e w8 ⟨rfl, hb⟩; have HS8 := Lib.hid (HS7.out.over hb); clear hb)
            | (go_at_call 14; (with_reducible refine (HZr.out _ HS8.out.below).mono ?_); rintro e w9 ⟨rfl, q9, rfl⟩; have HS9 := Lib.hid (HS8.out.over (⟨rfl, rfl, rfl, Nat.le_refl _, fun _ _ => rfl⟩ : Below w8.heap.size w8 (w8.drewN q9))))
            | (go_at_call 15; (with_reducible refine (HSt.out _ _ (HS9.out.lent (g := g) (q := q) (l := l) (by simp)) HS9.out.below).mono ?_); rintro e w10 ⟨rfl, hb⟩; have HS10 := Lib.hid ((HS9.out.over hb).sub (List.nil_sublist _)); clear hb))
          go_roundw
          case rel => exact ⟨k + 1, by omega, by go_num, ⟨_, HS10.out⟩⟩
          case measure => simp [RowKit.intOf]; omega
        · have k1 : decide ((k : Int) < 2) = false := decide_eq_false (by omega)
          have k1' : decide (k < 2) = false := decide_eq_false hlt
          clear hlt hk HLe HLy HRy HRd HRr HZ HZr HSa HSt
          have HAp := Lib.hid (fun W (hW : BS a bb k T [] W) => hW.apart)
          have HAt : Hid (∀ (i : Nat) (x : It), l[i]? = some x → ∃ b off, a0 = some ⟨b, off, none⟩ ∧ ∀ W, Below a.heap.size a W → W.cell? ⟨b, off + i * 2, none⟩ = some (.string x.key) ∧ W.cell? ⟨b, off + i * 2 + 1, none⟩ = some (.int .i64 x.page)) := fun i x hi => HIa.out.at_ hi
          go_wp2
          go_loopw [16] (fun vi wr => ∃ i : Nat, i ≤ l.length ∧ vi = .int .i64 i ∧ Hid (BS a bb k T [] wr)) (fun vi _ => l.length - (RowKit.intOf vi).toNat)
          case atStart => exact ⟨0, Nat.zero_le _, rfl, HS0⟩
          case round =>
            clear HS0
            obtain ⟨i, hi, rfl, HS⟩ := hrel
            by_cases hlt : i < l.length
            · obtain ⟨x, hx⟩ : ∃ x, l[i]? = some x := ⟨_, List.getElem?_eq_getElem hlt⟩
              obtain ⟨xb, xo, rfl, hc⟩ := HAt.out i x hx
              have HC := Lib.hid hc
              have k1 : decide ((i : Int) < (l.length : Int)) = true := decide_eq_true (by omega)
              have k1' : decide (i < l.length) = true := decide_eq_true hlt
              have k2 : (i : Int) < (l.length : Int) := by omega
              have k3 : (0 : Int) ≤ (i : Int) := by omega
              have HV : Hid (∀ W, Calls Tryz.prog 16 #[.agg #[.string x.key, .int .i64 x.page]] W fun r w' => r = .returned (.bool x.ok) ∧ Below W.heap.size W w') := fun W => valid_any W x
              have HVr : Hid (∀ W, Calls Tryz.prog 17 #[.agg #[.string x.key, .int .i64 x.page]] W fun r w' => r = .returned (.bool x.ok) ∧ Below W.heap.size W w') := fun W => rvalid_any W x
              have HSd := Lib.hid (HS.out.over (Below.refl _ _).drew)
              clear hx hc
              generalize x.ok = d at *
              have hdd : (d != d) = false := by simp
              go_upto_region 18 with fail
              go_region_held3 (fun W => W.cell? ⟨xb, xo + i * 2, none⟩ = some (.string x.key) ∧ W.cell? ⟨xb, xo + i * 2 + 1, none⟩ = some (.int .i64 x.page)) (first | exact HC.out _ HSd.out.below | exact HC.out _ HS.out.below | exact HC.out _ HS5.out.below | exact HC.out _ HS6.out.below) ((first
                | (go_at_call 16; (with_reducible refine (HV.out _).mono ?_); rintro e w5 ⟨rfl, hb⟩; have HS5 := Lib.hid (by first | exact HSd.out.over hb | exact HS.out.over hb); clear hb)
                | (go_at_call 17; (with_reducible refine (HVr.out _).mono ?_); rintro e w6 ⟨rfl, hb⟩; have HS6 := Lib.hid (HS5.out.over hb); clear hb)))
              all_goals
                go_wp2
                go_roundw
                case rel => exact ⟨i + 1, by omega, by go_num, HS6⟩
                case measure => simp [RowKit.intOf]; omega
            · have e : i = l.length := by omega
              subst e
              have k1 : decide ((l.length : Int) < (l.length : Int)) = false := decide_eq_false (by omega)
              have k1' : decide (l.length < l.length) = false := decide_eq_false (by omega)
              clear hlt hi
              go_wp2_with (go_at_call 18; (with_reducible refine (HAp.out _ HS.out).mono ?_); rintro e w5 ⟨rfl, hb⟩; have HB5 := Lib.hid (thenBelow HBa.out hb); clear hb)
              go_ret
              exact ⟨rfl, HB5.out⟩

end Go.Proofs.YthihjkdankbnjaaGreat.P10
