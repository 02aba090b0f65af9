/-
  The book, Kids: are lists marked?
-/
import Derived.Test.YthihjkdankbnjaaGreatK3Kids
namespace Go.Proofs.YthihjkdankbnjaaGreat.PK
open Go Go.RowKit Go.Lib

set_option maxRecDepth 100000 in
set_option maxHeartbeats 2000000 in
theorem markedKids_some (w : World) (v : Value) (us : List Value) (ls : List (List (List Value))) (h : LL kKids w v us ls) (hm : ∀ (i : Nat) (l : List (List Value)), ls[i]? = some l → l.length ≤ 5000 ∧ l = marksL kKids i 0 l.length) (few : ls.length ≤ 240) :
    Calls Tryz.prog 70 #[v] w fun r w' => r = .returned (.bool true) ∧ Below w.heap.size w w' := by
  have HB := Lib.hid h
  obtain ⟨g, cap, rfl, hgl, hul, -, -⟩ := h
  have HC := Lib.hid (show ∀ (W : World) (i : Nat) (u : Value) (l : List (List Value)), LL kKids W (.slice (some ⟨g, 0, none⟩) ls.length cap) us ls → us[i]? = some u → ls[i]? = some l → W.cell? ⟨g, i, none⟩ = some u ∧ ElemsIn kKids W u l from fun W i u l hW hu hl => by
    obtain ⟨g', cap', e, _, _, h4, h5⟩ := hW
    obtain rfl : g = g' := by simpa using (Value.slice.inj e).1
    exact ⟨h4 i u hu, h5 i u l hu hl⟩)
  have HM := Lib.hid hm
  clear hm
  go_enter Tryz.func70, Tryz.ntmps70
  go_wp2
  go_loopw [3] (fun vi wr => ∃ i : Nat, i ≤ ls.length ∧ vi = .int .i64 i ∧ Hid (LL kKids wr (.slice (some ⟨g, 0, none⟩) ls.length cap) us ls) ∧ Hid (Below w.heap.size w wr)) (fun vi _ => ls.length - (RowKit.intOf vi).toNat)
  case atStart => exact ⟨0, Nat.zero_le _, rfl, HB, Below.refl _ _⟩
  case round =>
    obtain ⟨i, hi, rfl, HW, HL⟩ := hrel
    by_cases hil : i < ls.length
    · have b1 : decide ((i : Int) < (ls.length : Int)) = true := decide_eq_true (by omega)
      have b1' : decide (i < ls.length) = true := decide_eq_true hil
      have j0 : (0 : Int) ≤ (i : Int) := by omega
      have j1 : (i : Int) < (ls.length : Int) := by omega
      obtain ⟨u, hu⟩ : ∃ u, us[i]? = some u := ⟨_, List.getElem?_eq_getElem (by omega)⟩
      obtain ⟨l, hl⟩ : ∃ l, ls[i]? = some l := ⟨_, List.getElem?_eq_getElem hil⟩
      obtain ⟨hl1, hl2⟩ := HM.out i l hl
      obtain ⟨-, ht⟩ := HC.out wr i u l HW.out hu hl
      obtain ⟨ao, cp, rfl, -⟩ := ht
      obtain ⟨n, hn⟩ : ∃ n, n = l.length := ⟨_, rfl⟩
      rw [← hn] at hl1 hl2
      have HX := Lib.hid (show ∀ W, LL kKids W (.slice (some ⟨g, 0, none⟩) ls.length cap) us ls → W.cell? ⟨g, i, none⟩ = some (.slice ao n cp) from fun W hW => by rw [hn]; exact (HC.out W i _ l hW hu hl).1)
      have HTx := Lib.hid (show ∀ W, LL kKids W (.slice (some ⟨g, 0, none⟩) ls.length cap) us ls → ElemsIn kKids W (.slice ao n cp) l from fun W hW => by rw [hn]; exact (HC.out W i _ l hW hu hl).2)
      have MK := fun W => Lib.hid (marks0Kids W i n (by omega) (by omega))
      have HS := Lib.hid (show ∀ W W2 a c, LL kKids W (.slice (some ⟨g, 0, none⟩) ls.length cap) us ls → (tRow kKids (.slice a n c) (marksL kKids i 0 n)).At W2 W.heap.size → Below W.heap.size W W2 → Calls Tryz.prog 12 #[.slice ao n cp, .slice a n c] W2 fun e w' => e = .returned (.bool true) ∧ Below W2.heap.size W2 w' from fun W W2 a c hW hr hb => by
        have h7 := (HTx.out W hW).below hb
        have h8 := tRow_elems hr (by rw [marksL_length]; omega) (marksL_ok i 0 n)
        rw [← hl2] at h8
        exact sameKids_same W2 _ _ l h7 h8)
      have HWd := Lib.hid (HW.out.below ((Below.refl _ _).drew))
      have HLd := Lib.hid (thenBelow HL.out ((Below.refl _ _).drew))
      clear hu hl hl2 hn HC HB HM
      go_wp2
      go_region_held3 (fun W => W.cell? ⟨g, i, none⟩ = some (.slice ao n cp)) (first | exact HX.out _ HWd.out | exact HX.out _ HW.out | exact HX.out _ (by assumption))
        ((first
          | (go_at_call 102; (with_reducible refine (MK _).out.mono ?_); rintro e w2 ⟨am, cm, rfl, -, hrm, hb⟩; have hW2 := HWd.out.below hb; have HL2 := Lib.hid (thenBelow HLd.out hb); have HS2 := Lib.hid (HS.out _ _ am cm HWd.out hrm hb); clear hrm hb)
          | (go_at_call 12; (with_reducible refine HS2.out.mono ?_); rintro e w3 ⟨rfl, hb⟩; have hW3 := hW2.below hb; have HL3 := Lib.hid (thenBelow HL2.out hb); clear hb)))
      all_goals
        have HW3 := Lib.hid hW3
        clear hW3 hW2
        go_wp2
        go_roundw
        case rel => exact ⟨i + 1, by omega, by go_num, HW3, HL3⟩
        case measure => simp [RowKit.intOf]; omega
    · have b1 : decide ((i : Int) < (ls.length : Int)) = false := decide_eq_false (by omega)
      have b1' : decide (i < ls.length) = false := decide_eq_false hil
      go_wp2
      go_ret
      exact ⟨rfl, HL.out⟩

end Go.Proofs.YthihjkdankbnjaaGreat.PK
