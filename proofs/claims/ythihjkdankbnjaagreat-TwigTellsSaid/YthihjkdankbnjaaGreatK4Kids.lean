/-
  The book, Kids: are its lists as they were? Marks are put into them.
-/
import Derived.Test.YthihjkdankbnjaaGreatK3Kids
namespace Go.Proofs.YthihjkdankbnjaaGreat.PK
open Go Go.RowKit Go.Lib

set_option maxRecDepth 100000 in
set_option maxHeartbeats 2000000 in
theorem stillKids_some (w0 w : World) (b : Nat) (bs : List Value) (tv cv : Value) (us cs : List Value) (R : List Row) (ls : List (List (List Value))) (h : Bk kKids w0 R b bs tv cv us cs ls ls w) (hne : 0 < ls.length) :
    Calls Tryz.prog 43 #[.pointer (some ⟨b, 0, none⟩)] w fun r w' => r = .returned (.bool true) ∧ Below w.heap.size w w' := by
  obtain ⟨g, cap, g2, cap2, rfl, rfl, hcell⟩ := h.shape hne
  have HC := Lib.hid (show ∀ R' ls' ms' W, Bk kKids w0 R' b bs (.slice (some ⟨g, 0, none⟩) ls.length cap) (.slice (some ⟨g2, 0, none⟩) ls.length cap2) us cs ls' ms' W → (W.cell? ⟨b, 6, none⟩ = some (.slice (some ⟨g, 0, none⟩) ls.length cap) ∧ W.cell? ⟨b, 7, none⟩ = some (.slice (some ⟨g2, 0, none⟩) ls.length cap2)) ∧ (∀ i u, us[i]? = some u → W.cell? ⟨g, i, none⟩ = some u) ∧ ∀ i c, cs[i]? = some c → W.cell? ⟨g2, i, none⟩ = some c from hcell)
  have hul := h.ul
  have hcl := h.cl
  have HB := Lib.hid h
  have HE := Lib.hid (HC.out _ _ _ w h).1
  have few := h.few
  clear h hcell
  obtain ⟨n, hn⟩ : ∃ n, n = ls.length := ⟨_, rfl⟩
  go_enter Tryz.func43, Tryz.ntmps43
  go_wp2
  go_loopw [3] (fun vi wr => ∃ i : Nat, i ≤ ls.length ∧ vi = .int .i64 i ∧ Hid (Bk kKids w0 R b bs (.slice (some ⟨g, 0, none⟩) ls.length cap) (.slice (some ⟨g2, 0, none⟩) ls.length cap2) us cs ls ls wr) ∧ Hid (Below w.heap.size w wr)) (fun vi _ => ls.length - (RowKit.intOf vi).toNat)
  case atStart => exact ⟨0, Nat.zero_le _, rfl, HB, Below.refl _ _⟩
  case round =>
    obtain ⟨i, hi, rfl, HW, HL⟩ := hrel
    obtain ⟨⟨c0, c1⟩, hel, hel2⟩ := HC.out _ _ _ wr HW.out
    by_cases hil : i < ls.length
    · have b1 : decide ((i : Int) < (ls.length : Int)) = true := decide_eq_true (by omega)
      have b1' : decide (i < ls.length) = true := decide_eq_true hil
      have j0 : (0 : Int) ≤ (i : Int) := by omega
      have j1 : (i : Int) < (ls.length : Int) := by omega
      obtain ⟨u, hu⟩ : ∃ u, us[i]? = some u := ⟨_, List.getElem?_eq_getElem (by omega)⟩
      obtain ⟨c, hc⟩ : ∃ c, cs[i]? = some c := ⟨_, List.getElem?_eq_getElem (by omega)⟩
      obtain ⟨l, hl⟩ : ∃ l, ls[i]? = some l := ⟨_, List.getElem?_eq_getElem hil⟩
      have HXY := Lib.hid (show ∀ W, Bk kKids w0 R b bs (.slice (some ⟨g, 0, none⟩) ls.length cap) (.slice (some ⟨g2, 0, none⟩) ls.length cap2) us cs ls ls W → (W.cell? ⟨b, 6, none⟩ = some (.slice (some ⟨g, 0, none⟩) ls.length cap) ∧ W.cell? ⟨b, 7, none⟩ = some (.slice (some ⟨g2, 0, none⟩) ls.length cap2)) ∧ W.cell? ⟨g, i, none⟩ = some u ∧ W.cell? ⟨g2, i, none⟩ = some c from fun W hW => ⟨(HC.out _ _ _ W hW).1, (HC.out _ _ _ W hW).2.1 i u hu, (HC.out _ _ _ W hW).2.2 i c hc⟩)
      have HS := Lib.hid (show ∀ W, Bk kKids w0 R b bs (.slice (some ⟨g, 0, none⟩) ls.length cap) (.slice (some ⟨g2, 0, none⟩) ls.length cap2) us cs ls ls W → Calls Tryz.prog 12 #[u, c] W fun e w' => e = .returned (.bool true) ∧ Below W.heap.size W w' from fun W hW => sameKids_same W u c l (hW.u_ hu hl) (hW.c_ hc hl))
      have HWd := Lib.hid (HW.out.over ((Below.refl _ _).drew))
      have HLd := Lib.hid (thenBelow HL.out ((Below.refl _ _).drew))
      clear hel hel2 hu hc hl HC HB HE
      go_wp2
      go_region_held3 (fun W => (W.cell? ⟨b, 6, none⟩ = some (.slice (some ⟨g, 0, none⟩) ls.length cap) ∧ W.cell? ⟨b, 7, none⟩ = some (.slice (some ⟨g2, 0, none⟩) ls.length cap2)) ∧ W.cell? ⟨g, i, none⟩ = some u ∧ W.cell? ⟨g2, i, none⟩ = some c) (first | exact HXY.out _ HWd.out | exact HXY.out _ HW.out | exact HXY.out _ (by assumption))
        ((first | (go_at_call 12; (with_reducible refine (HS.out _ HWd.out).mono ?_); rintro e w2 ⟨rfl, hb⟩; have hW2 := HWd.out.over hb; have HL2 := Lib.hid (thenBelow HLd.out hb))))
      all_goals
        have HW2 := Lib.hid hW2
        clear hW2
        go_wp2
        go_roundw
        case rel => exact ⟨i + 1, by omega, by go_num, HW2, HL2⟩
        case measure => simp [RowKit.intOf]; omega
    · have b1 : decide ((i : Int) < (ls.length : Int)) = false := decide_eq_false (by omega)
      have b1' : decide (i < ls.length) = false := decide_eq_false hil
      clear hel hel2 HC HB HE
      go_wp2
      go_ret
      exact ⟨rfl, HL.out⟩

set_option maxRecDepth 100000 in
set_option maxHeartbeats 4000000 in
theorem putKids_some (w0 w : World) (R : List Row) (b : Nat) (bs : List Value) (tv cv : Value) (us cs : List Value) (ls ms : List (List (List Value))) (h : Bk kKids w0 R b bs tv cv us cs ls ms w) (hne : 0 < ls.length) :
    Calls Tryz.prog 54 #[.pointer (some ⟨b, 0, none⟩)] w fun r w' => r = .returned (.tuple #[]) ∧ Bk kKids w0 R b bs tv cv us cs (putL kKids ls ls.length) ms w' := by
  obtain ⟨g, cap, g2, cap2, rfl, rfl, hcell⟩ := h.shape hne
  have HC := Lib.hid (show ∀ R' ls' ms' W, Bk kKids w0 R' b bs (.slice (some ⟨g, 0, none⟩) ls.length cap) (.slice (some ⟨g2, 0, none⟩) ls.length cap2) us cs ls' ms' W → (W.cell? ⟨b, 6, none⟩ = some (.slice (some ⟨g, 0, none⟩) ls.length cap) ∧ W.cell? ⟨b, 7, none⟩ = some (.slice (some ⟨g2, 0, none⟩) ls.length cap2)) ∧ (∀ i u, us[i]? = some u → W.cell? ⟨g, i, none⟩ = some u) ∧ ∀ i c, cs[i]? = some c → W.cell? ⟨g2, i, none⟩ = some c from hcell)
  have hul := h.ul
  have few := h.few
  have HB := Lib.hid h
  have HSh := Lib.hid h.short
  clear h hcell
  generalize hT : Value.slice (some ⟨g2, 0, none⟩) ls.length cap2 = cv at *
  go_enter Tryz.func54, Tryz.ntmps54
  go_wp2
  go_loopw [2] (fun vi wr => ∃ i : Nat, i ≤ ls.length ∧ vi = .int .i64 i ∧ Hid (Bk kKids w0 R b bs (.slice (some ⟨g, 0, none⟩) ls.length cap) cv us cs (putL kKids ls i) ms wr)) (fun vi _ => ls.length - (RowKit.intOf vi).toNat)
  case atStart => exact ⟨0, Nat.zero_le _, rfl, by rw [putL_zero]; exact HB⟩
  case round =>
    obtain ⟨i, hi, rfl, HW⟩ := hrel
    obtain ⟨⟨c0, -⟩, hel, -⟩ := HC.out _ _ _ wr HW.out
    by_cases hil : i < ls.length
    · have b1 : decide ((i : Int) < (ls.length : Int)) = true := decide_eq_true (by omega)
      have b1' : decide (i < ls.length) = true := decide_eq_true hil
      have j0 : (0 : Int) ≤ (i : Int) := by omega
      have j1 : (i : Int) < (ls.length : Int) := by omega
      obtain ⟨u, hu⟩ : ∃ u, us[i]? = some u := ⟨_, List.getElem?_eq_getElem (by omega)⟩
      obtain ⟨l, hl⟩ : ∃ l, ls[i]? = some l := ⟨_, List.getElem?_eq_getElem hil⟩
      have hu1 := hel i u hu
      have hsh := HSh.out l (List.mem_of_getElem? hl)
      have hrow := HW.out.ur_ hu (putL_at hl)
      have hsl := hrow.slice
      obtain ⟨ao, n, cp, rfl, hn, hao⟩ : ∃ (ao : Option Addr) (n cp : Nat), u = .slice ao n cp ∧ n = l.length ∧ (0 < n → ∃ gu, ao = some ⟨gu, 0, none⟩) := by
        rcases hsl with ⟨e, h1, _⟩ | ⟨gu, cp, e, _⟩
        · exact ⟨none, 0, 0, e, h1.symm, fun q => absurd q (Nat.lt_irrefl _)⟩
        · exact ⟨_, l.length, cp, e, rfl, fun _ => ⟨gu, rfl⟩⟩
      have MK := Lib.hid (marks0Kids wr i n (by omega) (by omega))
      have hnl : n ≤ 4000 := by omega
      have HLo := Lib.hid hsh.2
      have HU := Lib.hid hu
      have HL := Lib.hid hl
      have HN := Lib.hid hn
      have HAO := Lib.hid hao
      clear hu hl hsl hrow hel hn hao HB hsh
      go_wp2_with (go_at_call 102; (with_reducible refine MK.out.mono ?_); rintro e w2 ⟨am, cm, rfl, ham, hrm, hb⟩; have HB2 := Lib.hid (HW.out.with_ hb hrm); have HAM := Lib.hid ham; clear hrm hb ham)
      go_loopw [4] (fun vk wx => ∃ k : Nat, k ≤ n ∧ vk = .int .i64 k ∧ Hid (Bk kKids w0 (tRow kKids (.slice am n cm) (marksL kKids i 0 n) :: R) b bs (.slice (some ⟨g, 0, none⟩) ls.length cap) cv us cs ((putL kKids ls i).set i (mixL kKids i l k)) ms wx)) (fun vk _ => n - (RowKit.intOf vk).toNat)
      case atStart =>
        refine ⟨0, Nat.zero_le _, rfl, ?_⟩
        have e : (putL kKids ls i).set i (mixL kKids i l 0) = putL kKids ls i := by
          rw [mixL_zero]
          apply List.ext_getElem?
          intro j
          by_cases hj : j = i
          · subst hj
            rw [List.getElem?_set_self (by rw [putL_length]; exact hil), putL_at HL.out]
          · rw [List.getElem?_set_ne (Ne.symm hj)]
        rw [e]
        exact HB2
      case round =>
        obtain ⟨k, hk, rfl, HX⟩ := hrel
        by_cases hkn : k < n
        · have b2 : decide ((k : Int) < (n : Int)) = true := decide_eq_true (by omega)
          have b2' : decide (k < n) = true := decide_eq_true hkn
          have q0 : (0 : Int) ≤ (k : Int) := by omega
          have q1 : (k : Int) < (n : Int) := by omega
          obtain ⟨gu, rfl⟩ := HAO.out (by omega)
          obtain ⟨gm, rfl⟩ := HAM.out (by omega)
          have hlset : ((putL kKids ls i).set i (mixL kKids i l k))[i]? = some (mixL kKids i l k) := List.getElem?_set_self (by rw [putL_length]; exact hil)
          have hmk : (mixL kKids i l k).length = l.length := mixL_length i l k (by have := HN.out; omega)
          have HY := Lib.hid (show ∀ ls' W, Bk kKids w0 (tRow kKids (.slice (some ⟨gm, 0, none⟩) n cm) (marksL kKids i 0 n) :: R) b bs (.slice (some ⟨g, 0, none⟩) ls.length cap) cv us cs ls' ms W → W.cell? ⟨b, 6, none⟩ = some (.slice (some ⟨g, 0, none⟩) ls.length cap) ∧ W.cell? ⟨g, i, none⟩ = some (.slice (some ⟨gu, 0, none⟩) n cp) ∧ W.cell? ⟨gm, k * 2, none⟩ = some (.string ⟨#[]⟩) ∧ W.cell? ⟨gm, k * 2 + 1, none⟩ = some (.int .i64 (-1000 * (i : Int) - (k : Int) - 1)) from fun ls' W hW => by
            obtain ⟨⟨y1, -⟩, y2, -⟩ := HC.out _ _ _ W hW
            exact ⟨y1, y2 i _ HU.out, (by have h9 := (hW.rows.own (tRow kKids (.slice (some ⟨gm, 0, none⟩) n cm) (marksL kKids i 0 n)) (by simp)).cell (show (tRow kKids (.slice (some ⟨gm, 0, none⟩) n cm) (marksL kKids i 0 n)).blk = some gm from rfl) (flat_at (marksL_ok i 0 n).lens (marksL_at i n k hkn) (j := 0) (u := .string ⟨#[]⟩) rfl); rwa [show k * kKids.n + 0 = k * 2 by show k * 2 + 0 = k * 2; omega] at h9), (by have h9 := (hW.rows.own (tRow kKids (.slice (some ⟨gm, 0, none⟩) n cm) (marksL kKids i 0 n)) (by simp)).cell (show (tRow kKids (.slice (some ⟨gm, 0, none⟩) n cm) (marksL kKids i 0 n)).blk = some gm from rfl) (flat_at (marksL_ok i 0 n).lens (marksL_at i n k hkn) (j := 1) (u := .int .i64 (-1000 * (i : Int) - (k : Int) - 1)) rfl); rwa [show k * kKids.n + 1 = k * 2 + 1 by show k * 2 + 1 = k * 2 + 1; omega] at h9)⟩)
          have HXd := Lib.hid (HX.out.over ((Below.refl _ _).drew))
          obtain ⟨old, hold⟩ : ∃ s, (mixL kKids i l k)[k]? = some s := ⟨_, List.getElem?_eq_getElem (by have := HN.out; omega)⟩
          obtain ⟨os, ox, rfl⟩ := (mixL_ok (i := i) (k := k) HLo.out) old (List.mem_of_getElem? hold)
          have hrow2 := HX.out.ur_ HU.out hlset
          have t0 := hrow2.cell (show (tRow kKids (.slice (some ⟨gu, 0, none⟩) n cp) (mixL kKids i l k)).blk = some gu from rfl) (flat_at (mixL_ok HLo.out).lens hold (j := 0) (u := .string os) rfl)
          rw [show k * kKids.n + 0 = k * 2 by show k * 2 + 0 = k * 2; omega] at t0
          have f0 := hrow2.free (show (tRow kKids (.slice (some ⟨gu, 0, none⟩) n cp) (mixL kKids i l k)).blk = some gu from rfl) (k * 2)
          have t1 := hrow2.cell (show (tRow kKids (.slice (some ⟨gu, 0, none⟩) n cp) (mixL kKids i l k)).blk = some gu from rfl) (flat_at (mixL_ok HLo.out).lens hold (j := 1) (u := .int .i64 ox) rfl)
          rw [show k * kKids.n + 1 = k * 2 + 1 by show k * 2 + 1 = k * 2 + 1; omega] at t1
          have f1 := hrow2.free (show (tRow kKids (.slice (some ⟨gu, 0, none⟩) n cp) (mixL kKids i l k)).blk = some gu from rfl) (k * 2 + 1)
          have hkl : k < (mixL kKids i l k).length := by have := HN.out; omega
          have hP2 := HX.out.putE HU.out hlset (show Value.ownBlock (.slice (some ⟨gu, 0, none⟩) n cp) = some gu from rfl) hkl (kKids.mok i k)
          rw [List.set_set, mixL_next i l k (by have := HN.out; omega)] at hP2
          have HP := Lib.hid (show Bk kKids w0 (tRow kKids (.slice (some ⟨gm, 0, none⟩) n cm) (marksL kKids i 0 n) :: R) b bs (.slice (some ⟨g, 0, none⟩) ls.length cap) cv us cs ((putL kKids ls i).set i (mixL kKids i l (k + 1))) ms (World.setCell (World.setCell _ ⟨gu, k * 2, none⟩ (.string ⟨#[]⟩)) ⟨gu, k * 2 + 1, none⟩ (.int .i64 (-1000 * (i : Int) - (k : Int) - 1))) from hP2)
          have HP := Lib.hid (HP.out.over ((Below.refl _ _).drew))
          clear hP2 hrow2 hold hlset hmk hkl HB2 MK HW
          go_wp2_with fail
          go_region_held3 (fun W => W.cell? ⟨b, 6, none⟩ = some (.slice (some ⟨g, 0, none⟩) ls.length cap) ∧ W.cell? ⟨g, i, none⟩ = some (.slice (some ⟨gu, 0, none⟩) n cp) ∧ W.cell? ⟨gm, k * 2, none⟩ = some (.string ⟨#[]⟩) ∧ W.cell? ⟨gm, k * 2 + 1, none⟩ = some (.int .i64 (-1000 * (i : Int) - (k : Int) - 1))) (first | exact HY.out _ _ HXd.out | exact HY.out _ _ HP.out | exact HY.out _ _ HX.out) (fail)
          all_goals
            go_wp2
            go_roundw
            case rel => exact ⟨k + 1, by omega, by go_num, HP⟩
            case measure => simp [RowKit.intOf]; omega
        · have b2 : decide ((k : Int) < (n : Int)) = false := decide_eq_false (by omega)
          have b2' : decide (k < n) = false := decide_eq_false hkn
          obtain rfl : k = n := by omega
          have HXL := HX.out.less
          rw [HN.out, mixL_all, putL_next HL.out] at HXL
          have HXN := Lib.hid HXL
          clear HXL HX HW HB2 MK
          go_wp2
          go_roundw
          case rel => exact ⟨i + 1, by omega, by go_num, HXN⟩
          case measure => simp [RowKit.intOf]; omega
    · have b1 : decide ((i : Int) < (ls.length : Int)) = false := decide_eq_false (by omega)
      have b1' : decide (i < ls.length) = false := decide_eq_false hil
      obtain rfl : i = ls.length := by omega
      clear hel HB
      go_wp2
      go_end0
      exact ⟨rfl, HW.out⟩

end Go.Proofs.YthihjkdankbnjaaGreat.PK
