/-
  What the statement DiskRenames makes of a disk, each call on the disk as it then is. (Disk, abstract, part 7.)
-/
import Derived.Test.YtlgloikhdbmgdaaAb4
import Derived.Test.YtlgloikhdbmgdaaArgs4K
namespace Go.Proofs.Ytlgloikhdbmgdaa.P4
open Go Go.RowKit Go.Lib Go.Maps Go.ChangeMaps Go.MapKept Go.Proofs.Ytlgloikhdbmgdaa.P3

/-- a file that holds the sectors of bs, all safe; without sectors no file -/
def oX (bs : List Int) : Option AF := if 0 < bs.length then some ⟨qsL bs, qsL bs, true, []⟩ else none
theorem oX_safe (bs : List Int) : ∀ F, oX bs = some F → F.made = true ∧ F.ws = [] ∧ F.now = F.safe := by
  intro F h
  unfold oX at h
  split at h
  · obtain rfl := Option.some.inj h
    exact ⟨rfl, rfl, rfl⟩
  · cases h
def RnOn (on : Bool) (a w : World) (d : Nat) (bs : List Int) : Prop := ∃ A, QX on a w d A ∧ getA A sA.data.toList = oX bs
def RnEnd (a w : World) (d : Nat) (bs : List Int) : Prop := ∃ on, RnOn on a w d bs
/-- armed, behind j of the fresh writes -/
def RnLive (a w : World) (d : Nat) (old fresh : List Int) (n : Nat) (ks : List Int) (j : Nat) : Prop :=
  ∃ A, QA a w d (old.length + j) A (n - j) ks ∧ A.length ≤ 1 + j ∧ getA A sA.data.toList = oX old ∧ ((getA A sB.data.toList).getD ⟨[], [], false, []⟩).now = (qsL fresh).take j ∧ (0 < j → ∃ F, getA A sB.data.toList = some F)
/-- armed, behind the Sync -/
def RnSync (a w : World) (d : Nat) (old fresh : List Int) (n : Nat) (ks : List Int) : Prop :=
  ∃ t A F, QA a w d t A (n - fresh.length - 1) ks ∧ getA A sA.data.toList = oX old ∧ getA A sB.data.toList = some F ∧ F = ⟨qsL fresh, qsL fresh, true, []⟩
theorem RnLive.fr {a w : World} {d : Nat} {old fresh : List Int} {n : Nat} {ks : List Int} {j : Nat} (h : RnLive a w d old fresh n ks j) : Below a.heap.size a w := by
  obtain ⟨A, h1, _⟩ := h
  exact h1.fr
theorem RnLive.below {a w w' : World} {d : Nat} {old fresh : List Int} {n : Nat} {ks : List Int} {j : Nat} (h : RnLive a w d old fresh n ks j) (hb : Below w.heap.size w w') : RnLive a w' d old fresh n ks j := by
  obtain ⟨A, h1, h2⟩ := h
  exact ⟨A, h1.below hb, h2⟩
theorem RnOn.fr {on : Bool} {a w : World} {d : Nat} {bs : List Int} (h : RnOn on a w d bs) : Below a.heap.size a w := by
  obtain ⟨A, h1, _⟩ := h
  exact h1.fr
theorem RnOn.below {on : Bool} {a w w' : World} {d : Nat} {bs : List Int} (h : RnOn on a w d bs) (hb : Below w.heap.size w w') : RnOn on a w' d bs := by
  obtain ⟨A, h1, h2⟩ := h
  exact ⟨A, h1.below hb, h2⟩
theorem RnLive.end' {a w : World} {d : Nat} {old fresh : List Int} {n : Nat} {ks : List Int} {j : Nat} (h : RnLive a w d old fresh n ks j) : RnEnd a w d old := by
  obtain ⟨A, h1, _, h3, _⟩ := h
  exact ⟨_, A, h1.x, h3⟩
theorem dead_end {a w : World} {d t : Nat} {A : AL} {ks : List Int} {old : List Int} (h : QD false a w d t (crashA A ks)) (hg : getA A sA.data.toList = oX old) : RnEnd a w d old :=
  ⟨_, _, h.x, crashA_safe ks hg (oX_safe old)⟩

theorem qs_all (bs : List Int) : (qsL bs).take bs.length = qsL bs := by rw [← qs_len bs]; exact List.take_length
theorem r_arm {a w : World} {d : Nat} {old fresh : List Int} {ks : List Int} {v : Value} (n : Nat) (h : QD true a w d old.length (lasts sA.data.toList (qsL old) old.length old.length)) (hv : KeepV a v ks) :
    Calls Try.prog 19 #[.pointer (some ⟨d, 0, none⟩), .int .i64 n, v] w fun e w' => e = .returned (.tuple #[]) ∧ RnLive a w' d old fresh n ks 0 := by
  refine (h.arm n ks hv).mono fun e w' ⟨h1, h2⟩ => ⟨h1, _, h2, lasts_len _ _ _ _, ?_, ?_, fun h => absurd h (Nat.lt_irrefl 0)⟩
  · by_cases h0 : 0 < old.length
    · rw [lasts_get _ _ _ h0, wsL_nil, qs_all, decide_eq_true h0]
      unfold oX
      rw [if_pos h0]
    · rw [show old.length = 0 by omega]
      unfold oX lasts
      rw [if_neg h0]
      rfl
  · have e : getA (lasts sA.data.toList (qsL old) old.length old.length) sB.data.toList = none := by
      unfold lasts
      split
      · rfl
      · rw [getA_other (by decide)]; rfl
    rw [e]
    rfl
theorem r_write {a w : World} {d : Nat} {old fresh : List Int} {n : Nat} {ks : List Int} {j : Nat} (h : RnLive a w d old fresh n ks j) (hj : j < fresh.length) (hF : fresh.length ≤ 12) (hO : old.length ≤ 12) (hn : n ≤ 30) (hjn : j ≤ n) :
    Calls Try.prog 10 #[.pointer (some ⟨d, 0, none⟩), .string ⟨#[98]⟩, .int .i64 j, .string (qx (fresh.getD j 0))] w fun e w' =>
      (j < n ∧ e = .returned (.int .i64 0) ∧ RnLive a w' d old fresh n ks (j + 1)) ∨ (n = j ∧ e = .returned (.int .i64 14) ∧ RnEnd a w' d old) := by
  obtain ⟨A, hQ, hl, ha, hb, hb2⟩ := h
  have hlen := qs_len fresh
  have hsz : sizeA A sB.data.toList = j := by
    unfold sizeA
    cases hg : getA A sB.data.toList with
    | none =>
      by_cases h0 : 0 < j
      · obtain ⟨F, hF⟩ := hb2 h0
        rw [hg] at hF; cases hF
      · show 0 = j
        omega
    | some F =>
      rw [hg] at hb
      show F.now.length = j
      rw [show F.now = _ from hb, List.length_take]
      omega
  have hw : getA (writeA A sB.data.toList (old.length + j + 1) j (qx (fresh.getD j 0))) sA.data.toList = oX old := by
    unfold writeA
    rw [getA_other (by decide), getA_rest A (by decide), ha]
  refine (hQ.write sB j (qx (fresh.getD j 0)) (by decide) (by decide) (qx_size _) (by rw [hsz]; exact Nat.le_refl _) (by omega) (fun _ => by omega) (by omega) (by omega)).mono ?_
  rintro e w' (⟨h1, rfl, h2⟩ | ⟨h1, rfl, h2⟩)
  · refine .inl ⟨by omega, rfl, _, by rw [show n - (j + 1) = n - j - 1 by omega]; exact h2, ?_, hw, ?_, fun _ => ⟨_, getA_self _ _ _⟩⟩
    · have h3 := restA_le A sB.data.toList
      show (restA A sB.data.toList).length + 1 ≤ 1 + (j + 1)
      omega
    · unfold writeA
      rw [getA_self]
      show (if j = ((getA A sB.data.toList).getD ⟨[], [], false, []⟩).now.length then ((getA A sB.data.toList).getD ⟨[], [], false, []⟩).now ++ [qx (fresh.getD j 0)] else ((getA A sB.data.toList).getD ⟨[], [], false, []⟩).now.set j (qx (fresh.getD j 0))) = _
      rw [hb, if_pos (by rw [List.length_take]; omega), take_snocB (by omega), qs_at fresh hj]
  · exact .inr ⟨by omega, rfl, dead_end h2 hw⟩
theorem r_sync {a w : World} {d : Nat} {old fresh : List Int} {n : Nat} {ks : List Int} (h : RnLive a w d old fresh n ks fresh.length) (h0 : 0 < fresh.length) (hn : n ≤ 30) (hjn : fresh.length ≤ n) :
    Calls Try.prog 12 #[.pointer (some ⟨d, 0, none⟩), .string ⟨#[98]⟩] w fun e w' =>
      (fresh.length < n ∧ e = .returned (.int .i64 0) ∧ RnSync a w' d old fresh n ks) ∨ (n = fresh.length ∧ e = .returned (.int .i64 14) ∧ RnEnd a w' d old) := by
  obtain ⟨A, hQ, hl, ha, hb, hb2⟩ := h
  obtain ⟨F, hF⟩ := hb2 h0
  rw [hF, qs_all] at hb
  refine (hQ.sync sB (by decide) (by decide) (by omega) hF).mono ?_
  rintro e w' (⟨h1, rfl, h2⟩ | ⟨h1, rfl, h2⟩)
  · refine .inl ⟨by omega, rfl, _, _, F.sync, h2, ?_, getA_self _ _ _, ?_⟩
    · unfold syncA
      rw [getA_other (by decide), getA_rest A (by decide), ha]
    · obtain ⟨f1, f2, f3, f4⟩ := F
      obtain rfl : f1 = _ := hb
      rfl
  · exact .inr ⟨by omega, rfl, dead_end h2 ha⟩
theorem r_rename {a w : World} {d : Nat} {old fresh : List Int} {n : Nat} {ks : List Int} (h : RnSync a w d old fresh n ks) (h0 : 0 < fresh.length) (hn : n ≤ 30) (hjn : fresh.length < n) :
    Calls Try.prog 23 #[.pointer (some ⟨d, 0, none⟩), .string ⟨#[98]⟩, .string ⟨#[97]⟩] w fun e w' =>
      (fresh.length + 1 < n ∧ e = .returned (.int .i64 0) ∧ RnEnd a w' d fresh) ∨ (n = fresh.length + 1 ∧ e = .returned (.int .i64 14) ∧ RnEnd a w' d old) := by
  obtain ⟨t, A, F, hQ, ha, hb, hF⟩ := h
  refine (hQ.rename sB sA (by decide) (by decide) (by decide) (by decide) (by omega) hb).mono ?_
  rintro e w' (⟨h1, rfl, h2⟩ | ⟨h1, rfl, h2⟩)
  · refine .inl ⟨by omega, rfl, _, _, h2.x, ?_⟩
    unfold renA oX
    rw [getA_self, if_pos h0, hF]
  · exact .inr ⟨by omega, rfl, dead_end h2 ha⟩
theorem r_restore {a w : World} {d : Nat} {bs : List Int} (h : RnEnd a w d bs) :
    Calls Try.prog 14 #[.pointer (some ⟨d, 0, none⟩)] w fun e w' => e = .returned (.tuple #[]) ∧ RnOn true a w' d bs := by
  obtain ⟨on, A, h1, h2⟩ := h
  exact h1.restore.mono fun e w' ⟨a, b⟩ => ⟨a, A, b, h2⟩
theorem r_size {a w : World} {d : Nat} {bs : List Int} (h : RnOn true a w d bs) :
    Calls Try.prog 15 #[.pointer (some ⟨d, 0, none⟩), .string ⟨#[97]⟩] w fun e w' => e = .returned (.tuple #[.int .i64 (bs.length : Nat), .int .i64 (if 0 < bs.length then 0 else 8)]) ∧ RnOn true a w' d bs := by
  obtain ⟨A, h1, h2⟩ := h
  have hs : sizeA A sA.data.toList = bs.length := by
    unfold sizeA
    rw [h2]
    unfold oX
    by_cases h0 : 0 < bs.length
    · rw [if_pos h0]; exact qs_len bs
    · rw [if_neg h0]; show 0 = _; omega
  have he : (if getA A sA.data.toList = none then 8 else 0 : Int) = if 0 < bs.length then 0 else 8 := by
    rw [h2]
    unfold oX
    by_cases h0 : 0 < bs.length
    · rw [if_pos h0, if_pos h0, if_neg (fun e => by cases e)]
    · rw [if_neg h0, if_neg h0, if_pos rfl]
  have H := h1.size sA (by decide) (by decide)
  rw [hs, he] at H
  exact H.mono fun e w' ⟨a, b⟩ => ⟨a, A, b, h2⟩
theorem r_read {a w : World} {d i : Nat} {bs : List Int} (h : RnOn true a w d bs) (hi : i < bs.length) :
    Calls Try.prog 16 #[.pointer (some ⟨d, 0, none⟩), .string ⟨#[97]⟩, .int .i64 i] w fun e w' => e = .returned (.tuple #[.string (qx (bs.getD i 0)), .int .i64 0]) ∧ RnOn true a w' d bs := by
  obtain ⟨A, h1, h2⟩ := h
  have e2 : getA A sA.data.toList = some ⟨qsL bs, qsL bs, true, []⟩ := by
    rw [h2]; unfold oX; rw [if_pos (by omega)]
  refine (h1.read sA i (by decide) (by decide) (by unfold sizeA; rw [e2]; show i < (qsL bs).length; rw [qs_len]; exact hi)).mono fun e w' ⟨a, b⟩ => ⟨?_, A, b, h2⟩
  rw [a, e2, ← qs_at bs hi]
  rfl

end Go.Proofs.Ytlgloikhdbmgdaa.P4
