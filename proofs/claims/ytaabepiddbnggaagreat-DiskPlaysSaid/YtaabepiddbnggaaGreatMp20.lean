/-
  Texts of the proof of SaidPlays, side by side: Ab4.
-/
import Derived.Test.YtaabepiddbnggaaGreatMp19
/-
  A disk as the document has it: Rename on an armed disk, Read on any; what a crash leaves of a file that is safe. (Disk, abstract, part 6.)
-/
namespace Go.Proofs.YtaabepiddbnggaaGreat.P4
open Go Go.RowKit Go.Lib Go.Maps Go.ChangeMaps Go.MapKept Go.Proofs.YtaabepiddbnggaaGreat.P3

theorem DiskAt.rename {w : World} {d : Nat} {K : Dk} (h : DiskAt w d K) (hon : K.on = true) (hl : K.left ≤ 9223372036854775807) (s t : ByteArray) (h1 : 1 ≤ s.size) (h2 : s.size ≤ 40) (g1 : 1 ≤ t.size) (g2 : t.size ≤ 40) {F : Fl} (hF : getF K.files s.data.toList = some F) :
    Calls Tryz.prog 32 #[.pointer (some ⟨d, 0, none⟩), .string s, .string t] w fun e w' =>
      ((K.armed = false ∨ 0 < K.left) ∧ e = .returned (.int .i64 0) ∧ Step w d K w' { counted K with files := renF K.files s.data.toList t.data.toList F }) ∨
      (K.armed = true ∧ ¬ 0 < K.left ∧ FallPost w d K e w') := by
  have hb := below_new w (.cells #[.string s, .string t] 9)
  have hd2 := h.below hb
  have HK := Lib.hid (check2_ok (w.alloc (.cells #[.string s, .string t] 9)) d w.heap.size s t ((cell_at hd2.blk 1).trans (by rw [← hon]; rfl)) (cell_at (new_at w _ _) 0) (cell_at (new_at w _ _) 1) h1 h2 g1 g2)
  have HF := hd2.find s (by unfold maxLen; omega)
  have he : errF K.on s.size (getF K.files s.data.toList) = 0 := by
    unfold errF
    rw [hon, errn_good h1 h2, if_pos rfl, hF]
  rw [he, hon, errn_good h1 h2, if_pos rfl, hF] at HF
  have HF2 := Lib.hid (HF.mono fun e w' ⟨a, b⟩ => (⟨a, thenBelow hb b⟩ : _ ∧ Below w.heap.size w w'))
  by_cases hk : K.armed = false ∨ 0 < K.left
  · refine (rename_done (b := F.b) s t g2 (fun W => Step w d K W (counted K)) (fun W => Step w d K W { counted K with files := renF K.files s.data.toList t.data.toList F }) HK HF2
      (fun W hW => ((h.below hW).count0 hon hl hk).mono fun e w' hp => ⟨hp.1, (Step.below h hW).trans hp.2⟩) (fun W hW => ?_)).mono fun e w' ⟨a, b⟩ => .inl ⟨hk, a, b⟩
    have hm2 : (s.data.toList, F) ∈ (counted K).files := by rw [counted_files]; exact getF_mem hF
    obtain ⟨m, w2, e1, e2, e3, e4⟩ := hW.at'.renAfter s t hm2 (by unfold maxLen; omega) g2
    refine ⟨m, w2, (cell_at hW.at'.blk 0).trans (by rw [← e1]; rfl), e2, e3, fun W2 hW2 => ?_⟩
    obtain ⟨f1, w3, f2, f3⟩ := e4 W2 hW2
    rw [counted_files] at f3
    exact ⟨f1, w3, f2, hW.trans f3⟩
  · have ha : K.armed = true := by cases hx : K.armed with
      | true => rfl
      | false => exact absurd (.inl hx) hk
    exact (rename_falls (b := F.b) s t HK HF2 (fun W hW => (h.below hW).count14 hon hl ha (fun hx => hk (.inr hx)))).mono fun e w' hp => .inr ⟨ha, fun hx => hk (.inr hx), hp⟩

/-- what Rename makes of the files -/
def renA (A : AL) (f t : List UInt8) (F : AF) : AL := (t, F) :: restA (restA A f) t
theorem ren_abs (L : Files) (f t : List UInt8) (F : Fl) : absL (renF L f t F) = renA (absL L) f t F.abs := by
  unfold renF renA
  show (absP (t, F) :: absL (restF (restF L f) t)) = _
  rw [rest_abs, rest_abs]
  rfl
theorem QA.rename {a w : World} {d t : Nat} {A : AL} {lf : Nat} {ks : List Int} (h : QA a w d t A lf ks) (s u : ByteArray) (h1 : 1 ≤ s.size) (h2 : s.size ≤ 40) (g1 : 1 ≤ u.size) (g2 : u.size ≤ 40) (hlf : lf ≤ 1000000) {F : AF} (hg : getA A s.data.toList = some F) :
    Calls Tryz.prog 32 #[.pointer (some ⟨d, 0, none⟩), .string s, .string u] w fun e w' =>
      (0 < lf ∧ e = .returned (.int .i64 0) ∧ QA a w' d t (renA A s.data.toList u.data.toList F) (lf - 1) ks) ∨ (lf = 0 ∧ e = .returned (.int .i64 14) ∧ QD false a w' d t (crashA A ks)) := by
  obtain ⟨K, hL, hon, hroom, harm, hleft, hkeep, hturn⟩ := h
  obtain ⟨G, hG, hGF, _⟩ := hL.da.errF0 hon s h1 h2 hg
  refine (hL.da.at'.rename hon (by rw [hleft]; omega) s u h1 h2 g1 g2 hG).mono ?_
  rintro e w' (⟨hk, rfl, hst⟩ | ⟨_, h4, w1, n, K', rfl, hb, hcr⟩)
  · have h5 : 0 < lf := by
      rcases hk with h4 | h4
      · rw [harm] at h4; cases h4
      · omega
    have hcK : counted K = { K with left := K.left - 1 } := by unfold counted; rw [if_pos harm]
    rw [hcK] at hst
    refine .inl ⟨h5, rfl, _, hL.step hst ?_, hon, hroom, harm, ?_, hkeep, hturn⟩
    · show (absL (renF K.files s.data.toList u.data.toList G)).Perm _
      rw [ren_abs, hGF]
      exact (restA_perm (restA_perm hL.da.abs _) _).cons _
    · show K.left - 1 = _
      omega
  · refine .inr ⟨by omega, rfl, ?_⟩
    rw [← hkeep]
    exact hcr.qd (hL.below hb) hroom hturn
theorem QX.read {a w : World} {d : Nat} {A : AL} (h : QX true a w d A) (s : ByteArray) (i : Nat) (h1 : 1 ≤ s.size) (h2 : s.size ≤ 40) (hi : i < sizeA A s.data.toList) :
    Calls Tryz.prog 21 #[.pointer (some ⟨d, 0, none⟩), .string s, .int .i64 i] w fun e w' => e = .returned (.tuple #[.string (nowA (getA A s.data.toList) i), .int .i64 0]) ∧ QX true a w' d A := by
  have h0 := h
  obtain ⟨K, hL, hC⟩ := h
  have hsz := hL.da.size s.data.toList
  have hF : errF K.on s.size (getF K.files s.data.toList) = 0 := by
    unfold errF
    rw [hC, errn_good h1 h2, if_pos rfl]
    cases hg : getF K.files s.data.toList with
    | none => unfold sizeN at hsz; rw [hg] at hsz; simp at hsz; omega
    | some F => rfl
  have e0 : readE K s i = 0 := by
    unfold readE
    rw [if_neg (by simpa using hF), hsz, if_neg (by omega)]
  have e1 : readT K s i = nowA (getA A s.data.toList) i := by
    unfold readT
    rw [if_neg (by simpa using e0), Int.toNat_natCast, hL.da.now]
  refine (hL.da.at'.read s i (by unfold maxLen; omega)).mono ?_
  rintro e w' ⟨rfl, hb⟩
  rw [e0, e1]
  exact ⟨rfl, h0.below hb⟩

theorem getA_self (n : List UInt8) (F : AF) (B : AL) : getA ((n, F) :: B) n = some F := by simp [getA]
theorem getA_other {n m : List UInt8} (h : m ≠ n) (F : AF) (B : AL) : getA ((n, F) :: B) m = getA B m := by
  unfold getA
  rw [List.find?_cons_of_neg (by simpa using fun e : n = m => h e.symm)]
theorem getA_rest : ∀ (A : AL) {n m : List UInt8}, m ≠ n → getA (restA A n) m = getA A m
  | [], _, _, _ => rfl
  | (k, F) :: r, n, m, h => by
    have ih := getA_rest r h
    unfold restA at ih ⊢
    by_cases hk : k = n
    · subst hk
      rw [List.filter_cons_of_neg (by simp), ih, getA_other h]
    · rw [List.filter_cons_of_pos (by simpa using hk)]
      by_cases hm : m = k
      · subst hm
        rw [getA_self, getA_self]
      · rw [getA_other hm, getA_other hm, ih]
theorem getA_rest_self : ∀ (A : AL) (n : List UInt8), getA (restA A n) n = none
  | [], _ => rfl
  | (k, F) :: r, n => by
    have ih := getA_rest_self r n
    unfold restA at ih ⊢
    by_cases hk : k = n
    · rw [List.filter_cons_of_neg (by simpa using hk), ih]
    · rw [List.filter_cons_of_pos (by simpa using hk), getA_other (fun e => hk e.symm), ih]
theorem restA_le (A : AL) (n : List UInt8) : (restA A n).length ≤ A.length := List.length_filter_le _ _
/-- a file that is safe stays; one that is not there does not come -/
theorem crash_safe : ∀ (A : AL) (κ : Nat → Nat) (n : List UInt8) (o : Option AF), getA A n = o → (∀ F, o = some F → F.made = true ∧ F.ws = [] ∧ F.now = F.safe) → getA (A.filterMap (crA κ)) n = o
  | [], _, _, _, h, _ => h
  | (k, G) :: r, κ, n, o, h, ho => by
    by_cases hk : n = k
    · subst hk
      rw [getA_self] at h
      obtain ⟨h1, h2, h3⟩ := ho G h.symm
      have e : crA κ (n, G) = some (n, G) := by
        obtain ⟨gn, gs, gm, gw⟩ := G
        obtain rfl : gm = true := h1
        obtain rfl : gw = [] := h2
        obtain rfl : gn = gs := h3
        rfl
      rw [List.filterMap_cons, e]
      simp only
      rw [getA_self]
      exact h
    · rw [getA_other hk] at h
      have ih := crash_safe r κ n o h ho
      rw [List.filterMap_cons]
      unfold crA
      split
      · next e => exact ih
      · next q e =>
        have hq : q.1 = k := by
          split at e
          · obtain rfl := Option.some.inj e; rfl
          · cases e
        obtain ⟨q1, q2⟩ := q
        simp only at hq
        subst hq
        rw [getA_other hk]
        exact ih
theorem crashA_safe {A : AL} {n : List UInt8} {o : Option AF} (ks : List Int) (h : getA A n = o) (ho : ∀ F, o = some F → F.made = true ∧ F.ws = [] ∧ F.now = F.safe) : getA (crashA A ks) n = o := crash_safe A _ n o h ho

end Go.Proofs.YtaabepiddbnggaaGreat.P4
