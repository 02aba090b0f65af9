/-
  A disk of one's own, as the document has it, not armed: Sync, Dirty, Crash with a given list. (Disk, abstract, part 3.)
-/
import Derived.Test.YtlgloikhdbmgdaaDk32
namespace Go.Proofs.Ytlgloikhdbmgdaa.P4
open Go Go.RowKit Go.Lib Go.Maps Go.ChangeMaps Go.MapKept Go.Proofs.Ytlgloikhdbmgdaa.P3

/-- what Sync makes of the files -/
def syncA (A : AL) (n : List UInt8) (F : AF) : AL := (n, F.sync) :: restA A n
theorem DA.errF0 {w : World} {d : Nat} {K : Dk} {A : AL} (h : DA w d K A) (hon : K.on = true) (s : ByteArray) (h1 : 1 ≤ s.size) (h2 : s.size ≤ 40) {F : AF} (hg : getA A s.data.toList = some F) :
    ∃ G, getF K.files s.data.toList = some G ∧ G.abs = F ∧ errF K.on s.size (getF K.files s.data.toList) = 0 := by
  have hg2 := h.get s.data.toList
  rw [hg] at hg2
  obtain ⟨G, hG, he⟩ := Option.map_eq_some_iff.1 hg2
  refine ⟨G, hG, he, ?_⟩
  unfold errF
  rw [hon, errn_good h1 h2, if_pos rfl, hG]
theorem QD.sync {a w : World} {d t : Nat} {A : AL} (h : QD true a w d t A) (s : ByteArray) (h1 : 1 ≤ s.size) (h2 : s.size ≤ 40) {F : AF} (hg : getA A s.data.toList = some F) :
    Calls Try.prog 12 #[.pointer (some ⟨d, 0, none⟩), .string s] w fun e w' => e = .returned (.int .i64 0) ∧ QD true a w' d t (syncA A s.data.toList F) := by
  obtain ⟨K, hL, hC⟩ := h
  obtain ⟨G, hG, hGF, he⟩ := hL.da.errF0 hC.on s h1 h2 hg
  refine (hL.da.at'.sync s (by unfold maxLen; omega) (by rw [hC.left]; decide)).mono ?_
  intro e w' hp
  cases hp with
  | err hne _ => exact absurd he hne
  | falls _ ha _ _ _ => rw [hC.armed] at ha; cases ha
  | @done _ F2 _ _ hF hst =>
    rw [hG] at hF
    obtain rfl : G = F2 := by simpa using hF
    have hcK : counted K = K := by unfold counted; rw [if_neg (by rw [hC.armed]; decide)]
    rw [hcK] at hst
    refine ⟨rfl, _, hL.step hst ?_, hC.on, hC.room, hC.armed, hC.left, hC.turn⟩
    show (absP (s.data.toList, G.sync) :: absL (restF K.files s.data.toList)).Perm _
    unfold absP syncA
    rw [Fl.sync_abs, rest_abs, hGF]
    exact (restA_perm hL.da.abs _).cons _
/-- Crash with a list that is older than the disk -/
theorem QD.crashL {a w : World} {d t : Nat} {A : AL} {v : Value} (h : QD true a w d t A) (ks : List Int) (hv : IntsR (fun _ => False) a v ks) :
    Calls Try.prog 13 #[.pointer (some ⟨d, 0, none⟩), v] w fun e w' => e = .returned (.int .i64 (lostA (keptA A ks) A : Nat)) ∧ QD false a w' d t (crashA A ks) :=
  h.crash ks (fun K _ hL => by
    have h2 := hv.fr (Fr.of hL.fr)
    rcases hv with hv | ⟨g, o, c, rfl, hg, _, hc⟩
    · exact .inl hv
    · rcases h2 with h2 | ⟨g2, o2, c2, he, h4, _, h6⟩
      · exact .inl h2
      · obtain ⟨e1, e2⟩ : g = g2 ∧ o = o2 := by simp at he; exact ⟨he.1.1, he.1.2⟩
        subst e1 e2
        exact .inr ⟨g, o, c, rfl, h4, fun hk => by have := hL.foot g (wfoot_foot hk); omega, h6⟩)
theorem QD.dirty {a w : World} {d t : Nat} {on : Bool} {A : AL} (h : QD on a w d t A) :
    Calls Try.prog 18 #[.pointer (some ⟨d, 0, none⟩)] w fun e w' => e = .returned (.int .i64 ((wsA A).length : Nat)) ∧ QD on a w' d t A := by
  have h0 := h
  obtain ⟨K, hL, hC⟩ := h
  have e : (allW K.files).length = (wsA A).length := by rw [← (wsA_perm hL.da.abs).length_eq, wsA_abs, List.length_map]
  refine hL.da.at'.dirty.mono ?_
  rintro e' w' ⟨rfl, hb⟩
  rw [← e]
  exact ⟨rfl, h0.below hb⟩

end Go.Proofs.Ytlgloikhdbmgdaa.P4
