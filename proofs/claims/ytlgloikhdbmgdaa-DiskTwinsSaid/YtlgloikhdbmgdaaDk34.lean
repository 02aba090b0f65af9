/-
  Package disk: Cut. (Disk, part 34.)
-/
import Derived.Test.YtlgloikhdbmgdaaDk33
namespace Go.Proofs.Ytlgloikhdbmgdaa.P4
open Go Go.RowKit Go.Lib Go.Maps Go.ChangeMaps Go.MapKept Go.Proofs.Ytlgloikhdbmgdaa.P3

theorem DiskAt.cutted {W w' : World} {d : Nat} {K : Dk} {n : List UInt8} {F : Fl} {sl : Value} {z : Nat} (h : DiskAt W d K) (hm : (n, F) ∈ K.files) (hF : FileAt w' (F.cut sl z)) (hsl : sl.ownBlock = F.sl.ownBlock) (hf : Fr F.foot W w') : Step W d K w' { K with files := (n, F.cut sl z) :: restF K.files n } := by
  have hp := rest_perm h.files.names hm
  have hpa := allW_perm hp
  rw [allW_cons] at hpa
  have hl := hpa.length_eq
  rw [List.length_append] at hl
  have hmany := h.many.1
  have hsub : ∀ x ∈ (F.cut sl z).ws, x ∈ F.ws := fun x hx => (List.mem_filter.1 hx).1
  have hFw : ∀ x ∈ F.ws, x ∈ allW K.files := fun x hx => allW_mem.2 ⟨_, hm, hx⟩
  have htn : ((F.cut sl z).ws.map (·.turn) ++ (allW (restF K.files n)).map (·.turn)).Nodup := by
    have := (hpa.map (·.turn)).nodup_iff.1 h.files.tnd
    rw [List.map_append] at this
    exact this.sublist (List.Sublist.append_right ((List.filter_sublist).map _) _)
  have hfoot : ∀ k, (F.cut sl z).foot k → F.foot k := by
    rintro k (hk | hk | ⟨x, hx, hk⟩)
    · exact .inl hk
    · exact .inr (.inl (hsl ▸ hk))
    · exact .inr (.inr ⟨x, hsub x hx, hk⟩)
  have hlen : (F.cut sl z).ws.length ≤ F.ws.length := List.length_filter_le _ _
  obtain ⟨h1, h2⟩ := h.file hm hF hf rfl (fun k hk => .inl (hfoot k hk)) (F.cut_ok (h.files.ok _ hm) sl z) (fun x hx => h.still x (hFw x (hsub x hx))) (fun x hx => h.turns x (hFw x (hsub x hx))) htn (by omega)
  exact ⟨h1, h2, hf.mono (fun k _ hk => .inr (.inr (.inl ⟨_, hm, hk⟩)))⟩

theorem cut_err {w : World} {d : Nat} (s : ByteArray) (i : Int) (v : Value) (z : Int) (hz : (z != 0) = true) (H : Hid (Calls Try.prog 38 #[.pointer (some ⟨d, 0, none⟩), .string s] w fun e w' => e = .returned (.tuple #[v, .int .i64 z]) ∧ Below w.heap.size w w')) :
    Calls Try.prog 22 #[.pointer (some ⟨d, 0, none⟩), .string s, .int .i64 i] w fun e w' => e = .returned (.int .i64 z) ∧ Below w.heap.size w w' := by
  go_enter Try.func22, Try.ntmps22
  go_wp2_with (go_at_call 38; (with_reducible refine H.out.mono ?_); rintro e w' ⟨rfl, hb⟩; have HB := Lib.hid hb; clear hb)
  go_ret
  exact ⟨rfl, HB.out⟩
theorem cut_low {w : World} {d b : Nat} (s : ByteArray) (i : Int) (hi : i < 0) (H : Hid (Calls Try.prog 38 #[.pointer (some ⟨d, 0, none⟩), .string s] w fun e w' => e = .returned (.tuple #[.pointer (some ⟨b, 0, none⟩), .int .i64 0]) ∧ Below w.heap.size w w')) :
    Calls Try.prog 22 #[.pointer (some ⟨d, 0, none⟩), .string s, .int .i64 i] w fun e w' => e = .returned (.int .i64 15) ∧ Below w.heap.size w w' := by
  go_enter Try.func22, Try.ntmps22
  go_wp2_with (go_at_call 38; (with_reducible refine H.out.mono ?_); rintro e w' ⟨rfl, hb⟩; have HB := Lib.hid hb; clear hb)
  go_ret
  exact ⟨rfl, HB.out⟩
theorem cut_high {w : World} {d b n : Nat} (s : ByteArray) (i : Int) (hi0 : ¬ i < 0) (hi : (n : Int) < i) (H : Hid (Calls Try.prog 38 #[.pointer (some ⟨d, 0, none⟩), .string s] w fun e w' => e = .returned (.tuple #[.pointer (some ⟨b, 0, none⟩), .int .i64 0]) ∧ Below w.heap.size w w'))
    (HS : Hid (∀ W, Below w.heap.size w W → Calls Try.prog 32 #[.pointer (some ⟨b, 0, none⟩)] W fun e w' => e = .returned (.int .i64 n) ∧ W = w')) :
    Calls Try.prog 22 #[.pointer (some ⟨d, 0, none⟩), .string s, .int .i64 i] w fun e w' => e = .returned (.int .i64 15) ∧ Below w.heap.size w w' := by
  go_enter Try.func22, Try.ntmps22
  go_wp2_with (first
    | (go_at_call 38; (with_reducible refine H.out.mono ?_); rintro e w' ⟨rfl, hb⟩; have HB := Lib.hid hb; clear hb)
    | (go_at_call 32; (with_reducible refine (HS.out _ HB.out).mono ?_); rintro e w2 ⟨rfl, rfl⟩))
  go_ret
  exact ⟨rfl, HB.out⟩
theorem cut_falls {w : World} {d b n : Nat} {K : Dk} (s : ByteArray) (i : Nat) (hi : i ≤ n) (H : Hid (Calls Try.prog 38 #[.pointer (some ⟨d, 0, none⟩), .string s] w fun e w' => e = .returned (.tuple #[.pointer (some ⟨b, 0, none⟩), .int .i64 0]) ∧ Below w.heap.size w w'))
    (HS : Hid (∀ W, Below w.heap.size w W → Calls Try.prog 32 #[.pointer (some ⟨b, 0, none⟩)] W fun e w' => e = .returned (.int .i64 n) ∧ W = w'))
    (HC : Hid (∀ W, Below w.heap.size w W → Calls Try.prog 37 #[.pointer (some ⟨d, 0, none⟩)] W fun e w' => e = .returned (.int .i64 14) ∧ ∃ n K', Crashed W d K K.keep n K' w')) :
    Calls Try.prog 22 #[.pointer (some ⟨d, 0, none⟩), .string s, .int .i64 i] w (FallPost w d K) := by
  have h1 : ¬ ((i : Int) < 0) := by omega
  have h2 : ¬ ((n : Int) < (i : Int)) := by omega
  go_enter Try.func22, Try.ntmps22
  go_wp2_with (first
    | (go_at_call 38; (with_reducible refine H.out.mono ?_); rintro e w1 ⟨rfl, hb⟩; have HB := Lib.hid hb; clear hb)
    | (go_at_call 32; (with_reducible refine (HS.out _ HB.out).mono ?_); rintro e w2 ⟨rfl, rfl⟩)
    | (go_at_call 37; (with_reducible refine (HC.out _ HB.out).mono ?_); rintro e w2 ⟨rfl, n, K', hcr⟩; have HR := Lib.hid hcr; clear hcr))
  go_ret
  exact ⟨_, n, K', rfl, HB.out, HR.out⟩
theorem cut_done {w : World} {d b n : Nat} (s : ByteArray) (i : Nat) (hi : i ≤ n) (P : World → Prop) (Q : World → Prop) (H : Hid (Calls Try.prog 38 #[.pointer (some ⟨d, 0, none⟩), .string s] w fun e w' => e = .returned (.tuple #[.pointer (some ⟨b, 0, none⟩), .int .i64 0]) ∧ Below w.heap.size w w'))
    (HS : Hid (∀ W, Below w.heap.size w W → Calls Try.prog 32 #[.pointer (some ⟨b, 0, none⟩)] W fun e w' => e = .returned (.int .i64 n) ∧ W = w'))
    (HC : Hid (∀ W, Below w.heap.size w W → Calls Try.prog 37 #[.pointer (some ⟨d, 0, none⟩)] W fun e w' => e = .returned (.int .i64 0) ∧ P w'))
    (HX : Hid (∀ W, P W → Calls Try.prog 45 #[.pointer (some ⟨b, 0, none⟩), .int .i64 i] W fun e w' => e = .returned (.tuple #[]) ∧ Q w')) :
    Calls Try.prog 22 #[.pointer (some ⟨d, 0, none⟩), .string s, .int .i64 i] w fun e w' => e = .returned (.int .i64 0) ∧ Q w' := by
  have h1 : ¬ ((i : Int) < 0) := by omega
  have h2 : ¬ ((n : Int) < (i : Int)) := by omega
  go_enter Try.func22, Try.ntmps22
  go_wp2_with (first
    | (go_at_call 38; (with_reducible refine H.out.mono ?_); rintro e w1 ⟨rfl, hb⟩; have HB := Lib.hid hb; clear hb)
    | (go_at_call 32; (with_reducible refine (HS.out _ HB.out).mono ?_); rintro e w2 ⟨rfl, rfl⟩)
    | (go_at_call 37; (with_reducible refine (HC.out _ HB.out).mono ?_); rintro e w2 ⟨rfl, hp⟩; have HP := Lib.hid hp; clear hp)
    | (go_at_call 45; (with_reducible refine (HX.out _ HP.out).mono ?_); rintro e w3 ⟨rfl, hq⟩; have HQ := Lib.hid hq; clear hq))
  go_ret
  exact ⟨rfl, HQ.out⟩

/-- what stands against a Cut -/
def cutE (K : Dk) (s : ByteArray) (i : Int) : Int :=
  if errF K.on s.size (getF K.files s.data.toList) ≠ 0 then errF K.on s.size (getF K.files s.data.toList)
  else if i < 0 ∨ (sizeN K.files s.data.toList : Int) < i then 15 else 0
/-- Cut: an error; the power goes; or the file is cut -/
inductive CutPost4 (w : World) (d : Nat) (K : Dk) (s : ByteArray) (i : Int) : Ending → World → Prop where
  | err {w'} : cutE K s i ≠ 0 → Below w.heap.size w w' → CutPost4 w d K s i (.returned (.int .i64 (cutE K s i))) w'
  | falls {w1 w' n K'} : cutE K s i = 0 → K.armed = true → ¬ 0 < K.left → Below w.heap.size w w1 → Crashed w1 d K K.keep n K' w' → CutPost4 w d K s i (.returned (.int .i64 14)) w'
  | done {w' F sl} : cutE K s i = 0 → (K.armed = false ∨ 0 < K.left) → getF K.files s.data.toList = some F → Step w d K w' { counted K with files := (s.data.toList, F.cut sl i.toNat) :: restF K.files s.data.toList } → CutPost4 w d K s i (.returned (.int .i64 0)) w'
theorem DiskAt.cut {w : World} {d : Nat} {K : Dk} (h : DiskAt w d K) (s : ByteArray) (i : Int) (hs : s.size ≤ maxLen) (hl : K.left ≤ 9223372036854775807) :
    Calls Try.prog 22 #[.pointer (some ⟨d, 0, none⟩), .string s, .int .i64 i] w (CutPost4 w d K s i) := by
  have HF := h.find s hs
  by_cases he : errF K.on s.size (getF K.files s.data.toList) ≠ 0
  · have e0 : cutE K s i = errF K.on s.size (getF K.files s.data.toList) := by unfold cutE; rw [if_pos he]
    obtain ⟨p, hp⟩ := ptr_shape (if errn K.on s.size = 0 then (getF K.files s.data.toList).map (·.b) else none)
    rw [hp] at HF
    refine (cut_err s i _ _ (by simpa using he) HF).mono ?_
    rintro e w' ⟨rfl, hb⟩
    rw [← e0]
    exact .err (by rw [e0]; exact he) hb
  · have he : errF K.on s.size (getF K.files s.data.toList) = 0 := Decidable.not_not.1 he
    obtain ⟨h0, F, hF⟩ := errF_zero he
    have hon := errn_on h0
    have he2 := he
    rw [he2, if_pos h0, hF] at HF
    have hm := getF_mem hF
    have hz : sizeN K.files s.data.toList = F.secs.length := by unfold sizeN; rw [hF]
    have hfl := h.files.at' _ hm
    have HS : Hid (∀ W, Below w.heap.size w W → Calls Try.prog 32 #[.pointer (some ⟨F.b, 0, none⟩)] W fun e w' => e = .returned (.int .i64 F.secs.length) ∧ W = w') := fun W hW => (hfl.below hW).size
    have e0 : cutE K s i = if i < 0 ∨ (F.secs.length : Int) < i then 15 else 0 := by unfold cutE; rw [if_neg (by simpa using he), hz]
    by_cases hi : i < 0 ∨ (F.secs.length : Int) < i
    · rw [if_pos hi] at e0
      have hp : ∀ e w', (e = .returned (.int .i64 15) ∧ Below w.heap.size w w') → CutPost4 w d K s i e w' := by
        rintro e w' ⟨rfl, hb⟩
        rw [← e0]
        exact .err (by rw [e0]; decide) hb
      by_cases h1 : i < 0
      · exact (cut_low s i h1 HF).mono hp
      · exact (cut_high s i h1 (by omega) HF HS).mono hp
    · rw [if_neg hi] at e0
      obtain ⟨j, rfl⟩ : ∃ j : Nat, i = (j : Int) := ⟨i.toNat, by omega⟩
      have hj : j ≤ F.secs.length := by omega
      by_cases hk : K.armed = false ∨ 0 < K.left
      · refine (cut_done (b := F.b) s j hj (fun W => Step w d K W (counted K)) (fun W => ∃ sl, Step w d K W { counted K with files := (s.data.toList, F.cut sl j) :: restF K.files s.data.toList }) HF HS
          (fun W hW => ((h.below hW).count0 hon hl hk).mono fun e w' hp => ⟨hp.1, (Step.below h hW).trans hp.2⟩) (fun W hW => ?_)).mono ?_
        · have hm2 : (s.data.toList, F) ∈ (counted K).files := by rw [counted_files]; exact hm
          refine ((hW.at'.files.at' _ hm2).cut (hW.at'.files.ok _ hm2) j hj).mono ?_
          rintro e w' ⟨rfl, sl, h1, h2, h3⟩
          have := hW.at'.cutted hm2 h1 h2 h3
          rw [counted_files] at this
          exact ⟨rfl, sl, hW.trans this⟩
        · rintro e w' ⟨rfl, sl, hst⟩
          exact .done e0 hk hF (by rw [Int.toNat_natCast]; exact hst)
      · have ha : K.armed = true := by cases hx : K.armed with
          | true => rfl
          | false => exact absurd (.inl hx) hk
        refine (cut_falls (b := F.b) s j hj HF HS (fun W hW => (h.below hW).count14 hon hl ha (fun hx => hk (.inr hx)))).mono ?_
        rintro e w' ⟨w1, n, K', rfl, hb, hc⟩
        exact .falls e0 ha (fun hx => hk (.inr hx)) hb hc

end Go.Proofs.Ytlgloikhdbmgdaa.P4
