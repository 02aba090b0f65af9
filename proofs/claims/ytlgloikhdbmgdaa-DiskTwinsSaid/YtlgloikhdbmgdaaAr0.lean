/-
  What the statement DiskArmed makes of a disk, in plain words: two writes and a Sync in turn. No program. (Disk, abstract, part 5.)
-/
import Derived.Test.YtlgloikhdbmgdaaAb3
namespace Go.Proofs.Ytlgloikhdbmgdaa.P4
open Go Go.RowKit Go.Lib Go.Maps Go.ChangeMaps Go.MapKept Go.Proofs.Ytlgloikhdbmgdaa.P3

theorem lasts_sync2 (n : List UInt8) (L : List ByteArray) (lo : Nat) {j : Nat} (h0 : 0 < j) : syncA (lasts n L lo j) n ⟨L.take j, L.take lo, decide (0 < lo), wsL L lo j⟩ = lasts n L j j := by
  unfold syncA lasts
  rw [if_neg (by omega), if_neg (by omega), restA_one, wsL_nil]
  unfold AF.sync
  rw [decide_eq_true h0]
theorem lasts_take (n : List UInt8) (L : List ByteArray) {lo j : Nat} (h : lo ≤ j) : lasts n (L.take j) lo j = lasts n L lo j := by
  have e : wsL (L.take j) lo j = wsL L lo j := by
    unfold wsL
    apply List.map_congr_left
    intro k hk
    have := List.mem_range.1 hk
    rw [List.getD_eq_getElem?_getD, List.getElem?_take_of_lt (by omega), List.getD_eq_getElem?_getD]
  unfold lasts
  rw [e, List.take_take, List.take_take, Nat.min_self, Nat.min_eq_left h]
theorem crash_size (n : List UInt8) (L : List ByteArray) (ks : List Int) {lo j : Nat} (h : lo ≤ j) (hj : j ≤ L.length) : lo ≤ sizeA (crashA (lasts n L lo j) ks) n := by
  have hl : (L.take j).length = j := by rw [List.length_take]; omega
  have e := crash_lasts n (L.take j) ks (S := lo) (by omega)
  have hf := kAll_facts (L.take j) ks (S := lo) (by omega) ((L.take j).length - lo)
  rw [hl, lasts_take n L h] at e
  rw [hl] at hf
  rw [e]
  unfold afterC
  rw [hl]
  generalize kAll (L.take j) ks lo (j - lo) = R at hf
  have h2 := hf.lo
  by_cases h3 : 0 < R.length
  · rw [if_pos h3]
    unfold sizeA
    rw [getA_one]
    exact h2
  · have : lo = 0 := by omega
    omega
/-- behind i calls -/
def arA (n : List UInt8) (q : ByteArray) (i : Nat) : AL := lasts n (List.replicate 40 q) (2 * (i / 3)) (i - i / 3)
theorem rep_at {q : ByteArray} {j : Nat} (h : j < 40) : (List.replicate 40 q).getD j ⟨#[]⟩ = q := by
  rw [List.getD_eq_getElem?_getD, List.getElem?_replicate, if_pos h]
  rfl
theorem ar_write (n : List UInt8) (q : ByteArray) {i : Nat} (h : i % 3 ≠ 2) (hi : i < 40) : writeA (arA n q i) n (i - i / 3 + 1) (i - i / 3) q = arA n q (i + 1) := by
  have h1 := lasts_write n (List.replicate 40 q) (lo := 2 * (i / 3)) (j := i - i / 3) (by omega) (by rw [List.length_replicate]; omega)
  rw [rep_at (by omega)] at h1
  unfold arA
  rw [h1, show (i + 1) / 3 = i / 3 by omega, show i + 1 - i / 3 = i - i / 3 + 1 by omega]
theorem ar_get (n : List UInt8) (q : ByteArray) {i : Nat} (h : 0 < i) : ∃ F, getA (arA n q i) n = some F ∧ (i % 3 = 2 → syncA (arA n q i) n F = arA n q (i + 1)) := by
  refine ⟨_, lasts_get n _ _ (by omega), fun h2 => ?_⟩
  unfold arA
  rw [lasts_sync2 n _ _ (by omega), show (i + 1) / 3 = i / 3 + 1 by omega, show i + 1 - (i / 3 + 1) = i - i / 3 by omega, show 2 * (i / 3 + 1) = i - i / 3 by omega]
theorem ar_size (n : List UInt8) (q : ByteArray) {i : Nat} (h : i ≤ 40) : sizeA (arA n q i) n = i - i / 3 := lasts_size n _ _ (by rw [List.length_replicate]; omega)
theorem ar_len (n : List UInt8) (q : ByteArray) (i : Nat) : (arA n q i).length ≤ 1 := lasts_len _ _ _ _
theorem ar_crash (n : List UInt8) (q : ByteArray) (ks : List Int) {i : Nat} (h : i ≤ 40) : 2 * (i / 3) ≤ sizeA (crashA (arA n q i) ks) n := crash_size n _ ks (by omega) (by rw [List.length_replicate]; omega)

theorem a_write {a w : World} {d i lf : Nat} {ks : List Int} {q : ByteArray} (hq : q.size = 256) (h : QA a w d (i - i / 3) (arA sA.data.toList q i) lf ks) (hi : i < 40) (hm : i % 3 ≠ 2) (h0 : 0 < lf) (hlf : lf ≤ 1000000) :
    Calls Try.prog 10 #[.pointer (some ⟨d, 0, none⟩), .string ⟨#[97]⟩, .int .i64 ((i - i / 3 : Nat) : Int), .string q] w fun e w' => e = .returned (.int .i64 0) ∧ QA a w' d ((i + 1) - (i + 1) / 3) (arA sA.data.toList q (i + 1)) (lf - 1) ks := by
  refine (h.write sA (i - i / 3) q (by decide) (by decide) hq (by rw [ar_size _ _ (by omega)]; exact Nat.le_refl _) (by omega) (fun _ => Nat.lt_of_le_of_lt (ar_len _ _ _) (by decide)) (by omega) hlf).mono ?_
  rintro e w' (⟨_, rfl, hq2⟩ | ⟨hz, _⟩)
  · rw [ar_write _ _ hm hi] at hq2
    rw [show (i + 1) - (i + 1) / 3 = i - i / 3 + 1 by omega]
    exact ⟨rfl, hq2⟩
  · omega
theorem a_writeF {a w : World} {d i : Nat} {ks : List Int} {q : ByteArray} (hq : q.size = 256) (h : QA a w d (i - i / 3) (arA sA.data.toList q i) 0 ks) (hi : i < 40) (hm : i % 3 ≠ 2) :
    Calls Try.prog 10 #[.pointer (some ⟨d, 0, none⟩), .string ⟨#[97]⟩, .int .i64 ((i - i / 3 : Nat) : Int), .string q] w fun e w' => e = .returned (.int .i64 14) ∧ ∃ t A, t ≤ 100 ∧ 2 * (i / 3) ≤ sizeA A sA.data.toList ∧ QD false a w' d t A := by
  refine (h.write sA (i - i / 3) q (by decide) (by decide) hq (by rw [ar_size _ _ (by omega)]; exact Nat.le_refl _) (by omega) (fun _ => Nat.lt_of_le_of_lt (ar_len _ _ _) (by decide)) (by omega) (by omega)).mono ?_
  rintro e w' (⟨hz, _⟩ | ⟨_, rfl, hq2⟩)
  · omega
  · rw [ar_write _ _ hm hi] at hq2
    have hc := ar_crash sA.data.toList q ks (i := i + 1) (by omega)
    exact ⟨rfl, _, _, by omega, by omega, hq2⟩
theorem a_sync {a w : World} {d i lf : Nat} {ks : List Int} {q : ByteArray} (h : QA a w d (i - i / 3) (arA sA.data.toList q i) lf ks) (hi : i < 40) (hm : i % 3 = 2) (h0 : 0 < lf) (hlf : lf ≤ 1000000) :
    Calls Try.prog 12 #[.pointer (some ⟨d, 0, none⟩), .string ⟨#[97]⟩] w fun e w' => e = .returned (.int .i64 0) ∧ QA a w' d ((i + 1) - (i + 1) / 3) (arA sA.data.toList q (i + 1)) (lf - 1) ks := by
  obtain ⟨F, hF, hs⟩ := ar_get sA.data.toList q (i := i) (by omega)
  refine (h.sync sA (by decide) (by decide) hlf hF).mono ?_
  rintro e w' (⟨_, rfl, hq2⟩ | ⟨hz, _⟩)
  · rw [hs hm] at hq2
    rw [show (i + 1) - (i + 1) / 3 = i - i / 3 by omega]
    exact ⟨rfl, hq2⟩
  · omega
theorem a_syncF {a w : World} {d i : Nat} {ks : List Int} {q : ByteArray} (h : QA a w d (i - i / 3) (arA sA.data.toList q i) 0 ks) (hi : i < 40) (hm : i % 3 = 2) :
    Calls Try.prog 12 #[.pointer (some ⟨d, 0, none⟩), .string ⟨#[97]⟩] w fun e w' => e = .returned (.int .i64 14) ∧ ∃ t A, t ≤ 100 ∧ 2 * (i / 3) ≤ sizeA A sA.data.toList ∧ QD false a w' d t A := by
  obtain ⟨F, hF, hs⟩ := ar_get sA.data.toList q (i := i) (by omega)
  refine (h.sync sA (by decide) (by decide) (by omega) hF).mono ?_
  rintro e w' (⟨hz, _⟩ | ⟨_, rfl, hq2⟩)
  · omega
  · exact ⟨rfl, _, _, by omega, ar_crash sA.data.toList q ks (by omega), hq2⟩

end Go.Proofs.Ytlgloikhdbmgdaa.P4
