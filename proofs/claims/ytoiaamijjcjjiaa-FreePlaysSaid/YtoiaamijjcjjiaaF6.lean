/-
  The reference's list of free ids: Take. (For any seat that has rootstockref1.Free.)
-/
import Derived.Test.YtoiaamijjcjjiaaF5
namespace Go.Proofs.Ytoiaamijjcjjiaa.P7
open Go Go.RowKit Go.Lib Go.Proofs.Ytoiaamijjcjjiaa.PK

/-- a and the n - 1 behind it are free -/
def allIn (L : List Int) (a : Int) (n : Nat) : Prop := ∀ j : Nat, j < n → a + (j : Int) ∈ L
instance (L : List Int) (a : Int) (n : Nat) : Decidable (allIn L a n) := inferInstanceAs (Decidable (∀ j : Nat, j < n → a + (j : Int) ∈ L))
theorem allIn_next {L : List Int} {a : Int} {n : Nat} (h : allIn L a n) (k : a + (n : Int) ∈ L) : allIn L a (n + 1) := fun j hj => by
  by_cases e : j = n
  · rw [e]; exact k
  · exact h j (by omega)
/-- without a and the n - 1 behind it -/
def dropN (L : List Int) (a : Int) (n : Nat) : List Int := L.filter fun y => !decide (a ≤ y ∧ y < a + (n : Int))
theorem dropN_zero (L : List Int) (a : Int) : dropN L a 0 = L := by
  unfold dropN
  rw [List.filter_eq_self]
  intro y _
  have : ¬ (a ≤ y ∧ y < a + ((0 : Nat) : Int)) := by omega
  rw [decide_eq_false this]; rfl
theorem dropN_next (L : List Int) (a : Int) (n : Nat) : dropS (dropN L a n) (a + (n : Int)) = dropN L a (n + 1) := by
  unfold dropS dropN
  rw [List.filter_filter]
  apply List.filter_congr
  intro y _
  by_cases e : a ≤ y ∧ y < a + (n : Int)
  · have e2 : a ≤ y ∧ y < a + ((n + 1 : Nat) : Int) := by omega
    simp only [e, e2, and_self, decide_true, Bool.not_true, Bool.and_false]
  · by_cases q : y = a + (n : Int)
    · have e2 : a ≤ y ∧ y < a + ((n + 1 : Nat) : Int) := by omega
      have q1 : (y != a + (n : Int)) = false := by simp [q]
      rw [decide_eq_true e2, q1]; rfl
    · have e2 : ¬ (a ≤ y ∧ y < a + ((n + 1 : Nat) : Int)) := by omega
      have q1 : (y != a + (n : Int)) = true := by simp [q]
      rw [decide_eq_false e2, decide_eq_false e, q1]; rfl
theorem dropN_len (L : List Int) (a : Int) (n : Nat) : (dropN L a n).length ≤ L.length := List.length_filter_le _ _
/-- the least run of n -/
def FM.hit (F : FM) (n : Nat) : Option Int := F.L.find? fun a => decide (allIn F.L a n)
theorem hit_some {F : FM} {n k : Nat} {a : Int} (hk : F.L[k]? = some a) (h : ∀ b ∈ F.L.take k, ¬ allIn F.L b n) (ha : allIn F.L a n) : F.hit n = some a := by
  have e : F.L = F.L.take k ++ (a :: F.L.drop (k + 1)) := by
    have h1 := (List.getElem?_eq_some_iff.1 hk)
    obtain ⟨hlt, hv⟩ := h1
    rw [← hv, List.getElem_cons_drop, List.take_append_drop]
  unfold FM.hit
  rw [List.find?_eq_some_iff_append]
  exact ⟨decide_eq_true ha, F.L.take k, F.L.drop (k + 1), e, fun b hb => by simp [h b hb]⟩
theorem hit_none {F : FM} {n : Nat} (h : ∀ b ∈ F.L.take F.L.length, ¬ allIn F.L b n) : F.hit n = none := by
  rw [List.take_length] at h
  unfold FM.hit
  rw [List.find?_eq_none]
  intro b hb
  simp [h b hb]
def FM.take (F : FM) (n : Int) : FM × Int × Int :=
  if n < 1 ∨ 20 < n then (F, 0, 1) else
  match F.hit n.toNat with
  | some a => ({ F with L := dropN F.L a n.toNat }, a, 0)
  | none => if 4000 < F.pages + n then (F, 0, 20) else ({ F with pages := F.pages + n }, F.pages, 0)
theorem FM.take_bad {F : FM} {n : Int} (h : n < 1 ∨ 20 < n) : F.take n = (F, 0, 1) := by unfold FM.take; rw [if_pos h]
theorem FM.take_hit {F : FM} {n : Nat} {a : Int} (h1 : 1 ≤ n) (h2 : n ≤ 20) (h : F.hit n = some a) : F.take n = ({ F with L := dropN F.L a n }, a, 0) := by
  unfold FM.take
  rw [if_neg (by omega), Int.toNat_natCast, h]
theorem FM.take_full {F : FM} {n : Nat} (h1 : 1 ≤ n) (h2 : n ≤ 20) (h : F.hit n = none) (hp : 4000 < F.pages + (n : Int)) : F.take n = (F, 0, 20) := by
  unfold FM.take
  rw [if_neg (by omega), Int.toNat_natCast, h]
  simp only [if_pos hp]
theorem FM.take_grow {F : FM} {n : Nat} (h1 : 1 ≤ n) (h2 : n ≤ 20) (h : F.hit n = none) (hp : ¬ 4000 < F.pages + (n : Int)) : F.take n = ({ F with pages := F.pages + n }, F.pages, 0) := by
  unfold FM.take
  rw [if_neg (by omega), Int.toNat_natCast, h]
  simp only [if_neg hp]
section
variable {w0 w w1 w2 w' : World} {R : List Row} {r : Nat} {F : FM}
/-- more pages -/
theorem FAt.setP (h : FAt w0 R r F w) (p : Int) :
    w.cell? ⟨r, 0, none⟩ = some (.int .i64 F.pages) ∧ w.frozen? ⟨r, 0, none⟩ = false ∧ FAt w0 R r { F with pages := p } (w.setCell ⟨r, 0, none⟩ (.int .i64 p)) := by
  refine ⟨(h.cell 0).trans rfl, free_at h.blk 0, ?_, h.few, h.few2⟩
  have hrows : Rws w0 ([] ++ (bl r F.cells 35 :: (iRow F.lv F.L :: wRow F.wv F.W :: R))) w := h.rows
  have h3 := hrows.set (g := r) rfl 0 (.int .i64 p) (by show 0 < 3 * 1; decide)
  rw [bl_set] at h3
  exact h3
set_option maxRecDepth 100000 in
set_option maxHeartbeats 4000000 in
theorem FAt.take_ (h : FAt w0 R r F w) (n : Int) (hL : F.L.length ≤ 9000) (hp0 : 0 ≤ F.pages) (hp1 : F.pages ≤ 4000) (hv : ∀ x ∈ F.L, 0 ≤ x ∧ x ≤ 1000000) :
    Calls Try.prog 14 #[.pointer (some ⟨r, 0, none⟩), .int .i64 n] w fun e w' => ∃ lv', e = .returned (.tuple #[.int .i64 (F.take n).2.1, .int .i64 (F.take n).2.2]) ∧ FAt w0 R r { (F.take n).1 with lv := lv' } w' := by
  obtain ⟨la, lcp, hlv, hln⟩ := h.lshape
  have HC := Lib.hid (show ∀ W, FAt w0 R r F W → W.cell? ⟨r, 1, none⟩ = some (.slice la F.L.length lcp) from fun W hW => (hW.cell 1).trans (by rw [← hlv]; rfl))
  have H := Lib.hid h
  clear h
  by_cases hbad : n < 1 ∨ 20 < n
  · have HT := Lib.hid (FM.take_bad (F := F) hbad)
    have hbad2 : decide (n < 1) = true ∨ (decide (n < 1) = false ∧ decide (20 < n) = true) := by
      rcases hbad with q | q
      · exact .inl (decide_eq_true q)
      · by_cases q1 : n < 1
        · exact .inl (decide_eq_true q1)
        · exact .inr ⟨decide_eq_false q1, decide_eq_true q⟩
    clear hbad
    rcases hbad2 with q | ⟨q, q2⟩
    all_goals
      go_enter Try.func14, Try.ntmps14
      go_wp2
      go_ret2
      exact ⟨F.lv, by rw [HT.out]; rfl, by rw [HT.out]; exact H.out⟩
  · obtain ⟨m, rfl⟩ : ∃ m : Nat, n = (m : Int) := ⟨n.toNat, by omega⟩
    have m1 : 1 ≤ m := by omega
    have m2 : m ≤ 20 := by omega
    have q1 : decide ((m : Int) < 1) = false := decide_eq_false (by omega)
    have q2 : decide (20 < (m : Int)) = false := decide_eq_false (by omega)
    have few := H.out.few
    have HI := Lib.hid (show ∀ W, FAt w0 R r F W → IL W (.slice la F.L.length lcp) F.L from fun W hW => by
      have h1 := iRow_il hW.lrow (by omega)
      rwa [hlv] at h1)
    clear hbad hln
    have HV := Lib.hid hv
    clear hv
    go_enter Try.func14, Try.ntmps14
    go_wp2
    go_loopw [6] (fun vi wr => ∃ i : Nat, i ≤ F.L.length ∧ vi = .int .i64 i ∧ Hid (∀ b ∈ F.L.take i, ¬ allIn F.L b m) ∧ Hid (FAt w0 R r F wr)) (fun vi _ => F.L.length - (RowKit.intOf vi).toNat)
    case atStart => exact ⟨0, Nat.zero_le _, rfl, fun b hb => by simp at hb, H⟩
    case round =>
      clear H
      obtain ⟨i, hi, rfl, HN, HG⟩ := hrel
      have c1 := HC.out wr HG.out
      by_cases hlt : i < F.L.length
      · obtain ⟨a, ha⟩ : ∃ a, F.L[i]? = some a := ⟨_, List.getElem?_eq_getElem hlt⟩
        obtain ⟨g, off, rfl⟩ : ∃ g off, la = some ⟨g, off, none⟩ := by
          obtain ⟨a', c', e, _, _, hc⟩ := HI.out wr HG.out
          obtain ⟨b, off, e2, _⟩ := hc (by omega)
          obtain ⟨rfl, _⟩ : la = a' ∧ _ := by simpa using e
          exact ⟨b, off, e2⟩
        have HA := Lib.hid (show ∀ W, FAt w0 R r F W → W.cell? ⟨g, off + i, none⟩ = some (.int .i64 a) from fun W hW => by
          obtain ⟨a', c', e, _, _, hc⟩ := HI.out W hW
          obtain ⟨b, off', e2, _, hcc⟩ := hc (by omega)
          obtain ⟨rfl, _⟩ : some ⟨g, off, none⟩ = a' ∧ _ := by simpa using e
          obtain ⟨rfl, rfl⟩ : g = b ∧ off = off' := by simpa using e2
          exact hcc i a ha)
        have HAq := Lib.hid ha
        obtain ⟨a0, a1⟩ := HV.out a (List.mem_of_getElem? ha)
        have b0 : (0 : Int) ≤ (i : Int) := by omega
        have b1 : (i : Int) < (F.L.length : Int) := by omega
        clear ha
        go_wp2
        obtain ⟨wo, hwo⟩ : ∃ wo, wo = wr := ⟨_, rfl⟩
        clear hwo
        go_loopw [7] (fun vk wx => ∃ k : Nat, k ≤ m ∧ vk = .int .i64 k ∧ Hid (allIn F.L a k) ∧ Hid (FAt w0 R r F wx)) (fun vk _ => m - (RowKit.intOf vk).toNat)
        case atStart => exact ⟨0, Nat.zero_le _, rfl, fun j hj => absurd hj (Nat.not_lt_zero _), HG⟩
        case round =>
          clear HG c1
          obtain ⟨k, hk, rfl, HQ, HG⟩ := hrel
          have c1 := HC.out wr HG.out
          have c2 := HA.out wr HG.out
          by_cases hkm : k < m
          · have e1 : decide ((k : Int) < (m : Int)) = true := decide_eq_true (by omega)
            have hgd := HG.out.over ((Below.refl _ _).drew)
            have HGd := Lib.hid hgd
            have hw : IntKind.i64.wrap (a + (k : Int)) = a + (k : Int) := by rw [IntKind.wrap_i64]; omega
            obtain ⟨c, hc⟩ : ∃ c, c = decide (a + (k : Int) ∈ F.L) := ⟨_, rfl⟩
            have HIn := Lib.hid (show ∀ W, IL W (.slice (some ⟨g, off, none⟩) F.L.length lcp) F.L → Calls Try.prog 29 #[.slice (some ⟨g, off, none⟩) F.L.length lcp, .int .i64 (IntKind.i64.wrap (a + (k : Int)))] W fun e w' => e = .returned (.bool c) ∧ W = w' from fun W hW => by
              rw [hw, hc]
              exact in_any W _ F.L _ hW)
            have HD := Lib.hid hc
            have HI1 := Lib.hid (HIn.out wr (HI.out wr HG.out))
            have HI2 := Lib.hid (HIn.out wr.drew (HI.out wr.drew hgd))
            clear hgd hc hw
            go_upto_region 7 with fail
            go_region_held3 (fun W => W.cell? ⟨g, off + i, none⟩ = some (.int .i64 a) ∧ W.cell? ⟨r, 1, none⟩ = some (.slice (some ⟨g, off, none⟩) F.L.length lcp)) (first | exact ⟨HA.out _ HG.out, HC.out _ HG.out⟩ | exact ⟨HA.out _ HGd.out, HC.out _ HGd.out⟩) ((first | (go_at_call 29; (first | (with_reducible refine HI1.out.mono ?_) | (with_reducible refine HI2.out.mono ?_)); rintro e w4 ⟨rfl, rfl⟩)))
            all_goals
              cases c
              case true =>
                have HQ2 := Lib.hid (allIn_next HQ.out (of_decide_eq_true HD.out.symm))
                go_wp2
                go_roundw
                case rel => exact ⟨k + 1, by omega, by go_num, HQ2, by first | exact HG | exact HGd⟩
                case measure => simp [RowKit.intOf]; omega
              case false =>
                have HQ2 := Lib.hid (fun (h9 : allIn F.L a m) => (of_decide_eq_false HD.out.symm) (h9 k hkm))
                have e2 : decide ((k : Int) = (m : Int)) = false := decide_eq_false (by omega)
                have e3 : ((k : Int) == (m : Int)) = false := beq_eq_false_iff_ne.2 (by omega)
                go_wp2
                go_roundw
                case rel => exact ⟨i + 1, by omega, by go_num, fun b hb => by
                  rw [List.take_add_one, HAq.out] at hb
                  rcases List.mem_append.1 hb with h9 | h9
                  · exact HN.out b h9
                  · simp at h9; rw [h9]; exact HQ2.out, by first | exact HG | exact HGd⟩
                case measure => simp [RowKit.intOf]; omega
          · obtain rfl : k = m := by omega
            have e1 : decide ((k : Int) < (k : Int)) = false := decide_eq_false (by omega)
            go_upto_region 7 with fail
            go_quiet (fail)
            all_goals
              go_wp2
              have HT := Lib.hid (FM.take_hit m1 m2 (hit_some HAq.out HN.out HQ.out))
              have HG0 := Lib.hid (show FAt w0 R r F (wr.drewN nq) from HG.out.over ⟨rfl, rfl, rfl, Nat.le_refl _, fun _ _ => rfl⟩)
              obtain ⟨wp, hwp⟩ : ∃ wp, wp = wr.drewN nq := ⟨_, rfl⟩
              rw [← hwp] at HG0 ⊢
              clear HG hwp HN HA HI HC c1 c2
              go_loopw [9] (fun vj wx => ∃ (j : Nat) (lv' : Value), j ≤ k ∧ vj = .int .i64 j ∧ Hid (FAt w0 R r { F with lv := lv', L := dropN F.L a j } wx)) (fun vj _ => k - (RowKit.intOf vj).toNat)
              case atStart => exact ⟨0, F.lv, Nat.zero_le _, rfl, by show FAt _ _ _ _ _; rw [dropN_zero]; exact HG0.out⟩
              case round =>
                clear HG0
                obtain ⟨j, lv', hj, rfl, HG⟩ := hrel
                obtain ⟨da, dc, hdv, -⟩ := HG.out.lshape
                obtain ⟨D, hD⟩ : ∃ D, D = dropN F.L a j := ⟨_, rfl⟩
                have hdl : D.length ≤ 10000 := by rw [hD]; exact Nat.le_trans (dropN_len _ _ _) few
                have hdv2 : lv' = .slice da D.length dc := by rw [hD]; exact hdv
                subst hdv2
                clear hdv
                have c1 : wr.cell? ⟨r, 1, none⟩ = some (.slice da D.length dc) := HG.out.cell 1
                by_cases hjk : j < k
                · have e1 : decide ((j : Int) < (k : Int)) = true := decide_eq_true (by omega)
                  have hil : ∀ W, FAt w0 R r { F with lv := .slice da D.length dc, L := dropN F.L a j } W → IL W (.slice da D.length dc) D := fun W hW => by
                    have h1 := iRow_il hW.lrow (Nat.le_trans (dropN_len F.L a j) (by omega))
                    rw [hD]; rw [hD] at h1; exact h1
                  have hw : IntKind.i64.wrap (a + (j : Int)) = a + (j : Int) := by rw [IntKind.wrap_i64]; omega
                  have HP := Lib.hid (drop_any wr (.slice da D.length dc) D (a + (j : Int)) (hil wr HG.out) (by omega))
                  have HPd := Lib.hid (drop_any wr.drew (.slice da D.length dc) D (a + (j : Int)) (hil wr.drew (HG.out.over ((Below.refl _ _).drew))) (by omega))
                  have HS := Lib.hid (fun (w1 : World) (u : Value) (hb : Below wr.heap.size wr w1) (hu : (iRow u (dropS D (a + (j : Int)))).At w1 wr.heap.size) => HG.out.setL hb (u := u) (L' := dropS D (a + (j : Int))) (.inr hu) (by rw [hD, dropN_next]; exact Nat.le_trans (dropN_len _ _ _) few))
                  have HDn := Lib.hid (show dropS D (a + (j : Int)) = dropN F.L a (j + 1) from by rw [hD, dropN_next])
                  clear hil hD
                  go_wp2_with (go_at_call 35; (first | (with_reducible refine HP.out.mono ?_) | (with_reducible refine HPd.out.mono ?_)); rintro e w3 ⟨u, rfl, hu, hb⟩; obtain ⟨up, un, uc, hue⟩ : ∃ p n c, u = Value.slice p n c := owns_shape (iRow_owns.1 hu); have hb2 := (show Below wr.heap.size wr w3 from (by first | exact hb | exact thenBelow ((Below.refl _ _).drew) hb)); obtain ⟨k1, k2, hQ⟩ := HS.out w3 u hb2 hu; subst hue; have HQ := Lib.hid hQ; clear hQ hu hb hb2)
                  go_roundw
                  case rel => exact ⟨j + 1, Value.slice up un uc, by omega, by go_num, by rw [← HDn.out]; exact HQ⟩
                  case measure => simp [RowKit.intOf]; omega
                · obtain rfl : j = k := by omega
                  have e1 : decide ((j : Int) < (j : Int)) = false := decide_eq_false (by omega)
                  clear hD
                  go_wp2
                  go_ret2
                  exact ⟨.slice da D.length dc, by rw [HT.out]; rfl, by rw [HT.out]; exact HG.out⟩
      · have HN2 := Lib.hid (hit_none (F := F) (n := m) (by have h9 := HN.out; rwa [show i = F.L.length by omega] at h9))
        obtain rfl : i = F.L.length := by omega
        have c0 : wr.cell? ⟨r, 0, none⟩ = some (.int .i64 F.pages) := (HG.out.cell 0).trans rfl
        by_cases hp : 4000 < F.pages + (m : Int)
        · have e1 : decide (4000 < F.pages + (m : Int)) = true := decide_eq_true hp
          have HT := Lib.hid (FM.take_full m1 m2 HN2.out hp)
          clear hp
          go_wp2
          go_ret2
          exact ⟨F.lv, by rw [HT.out]; rfl, by rw [HT.out]; exact HG.out⟩
        · have e1 : decide (4000 < F.pages + (m : Int)) = false := decide_eq_false hp
          have HT := Lib.hid (FM.take_grow m1 m2 HN2.out hp)
          obtain ⟨-, k1, hQ⟩ := HG.out.setP (F.pages + (m : Int))
          have HQ := Lib.hid hQ
          clear hp hQ
          go_wp2
          go_ret2
          exact ⟨F.lv, by rw [HT.out]; go_num, by rw [HT.out]; exact HQ.out⟩
end
end Go.Proofs.Ytoiaamijjcjjiaa.P7
