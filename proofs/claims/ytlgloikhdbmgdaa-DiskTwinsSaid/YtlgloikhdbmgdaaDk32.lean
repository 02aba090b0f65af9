/-
  Package disk: a call that is counted; Sync. (Disk, part 32.)
-/
import Derived.Test.YtlgloikhdbmgdaaAlive4
namespace Go.Proofs.Ytlgloikhdbmgdaa.P4
open Go Go.RowKit Go.Lib Go.Maps Go.ChangeMaps Go.MapKept Go.Proofs.Ytlgloikhdbmgdaa.P3

/-- the disk behind a call that was counted and told OK -/
def counted (K : Dk) : Dk := if K.armed = true then { K with left := K.left - 1 } else K
theorem DiskAt.count0 {w : World} {d : Nat} {K : Dk} (h : DiskAt w d K) (hon : K.on = true) (hl : K.left ≤ 9223372036854775807) (hk : K.armed = false ∨ 0 < K.left) :
    Calls Try.prog 37 #[.pointer (some ⟨d, 0, none⟩)] w fun e w' => e = .returned (.int .i64 0) ∧ Step w d K w' (counted K) := by
  refine (h.count hon hl).mono ?_
  rintro e w' ⟨n, K', rfl, hc⟩
  unfold counted
  cases hc with
  | free h1 hb _ => rw [h1, if_neg (by decide)]; exact ⟨rfl, .below h hb⟩
  | less h1 _ hs => rw [if_pos h1]; exact ⟨rfl, hs⟩
  | falls h1 h2 _ => rcases hk with hk | hk
                     · rw [hk] at h1; cases h1
                     · exact absurd hk h2
theorem DiskAt.count14 {w : World} {d : Nat} {K : Dk} (h : DiskAt w d K) (hon : K.on = true) (hl : K.left ≤ 9223372036854775807) (ha : K.armed = true) (hk : ¬ 0 < K.left) :
    Calls Try.prog 37 #[.pointer (some ⟨d, 0, none⟩)] w fun e w' => e = .returned (.int .i64 14) ∧ ∃ n K', Crashed w d K K.keep n K' w' := by
  refine (h.count hon hl).mono ?_
  rintro e w' ⟨n, K', rfl, hc⟩
  cases hc with
  | free h1 hb _ => rw [ha] at h1; cases h1
  | less _ h2 hs => exact absurd h2 hk
  | falls h1 h2 hcr => exact ⟨rfl, _, _, hcr⟩
theorem counted_files (K : Dk) : (counted K).files = K.files := by unfold counted; split <;> rfl
theorem DiskAt.synced {W w' : World} {d : Nat} {K : Dk} {n : List UInt8} {F : Fl} (h : DiskAt W d K) (hm : (n, F) ∈ K.files) (hF : FileAt w' F.sync) (hf : Fr F.foot W w') : Step W d K w' { K with files := (n, F.sync) :: restF K.files n } := by
  have hp := rest_perm h.files.names hm
  have hpa := allW_perm hp
  rw [allW_cons] at hpa
  have hl := hpa.length_eq
  rw [List.length_append] at hl
  have hmany := h.many.1
  have htn : ((allW (restF K.files n)).map (·.turn)).Nodup := by
    have := (hpa.map (·.turn)).nodup_iff.1 h.files.tnd
    rw [List.map_append] at this
    exact (List.nodup_append.1 this).2.1
  have hfoot : ∀ k, F.sync.foot k → F.foot k := by
    rintro k (hk | hk | ⟨x, hx, _⟩)
    · exact .inl hk
    · exact .inr (.inl hk)
    · cases hx
  obtain ⟨h1, h2⟩ := h.file hm hF hf rfl (fun k hk => .inl (hfoot k hk)) (F.sync_ok (h.files.ok _ hm)) (fun x hx => by cases hx) (fun x hx => by cases hx) (by exact htn) (by show 0 + _ ≤ _; omega)
  exact ⟨h1, h2, hf.mono (fun k _ hk => .inr (.inr (.inl ⟨_, hm, hk⟩)))⟩

theorem sync_err {w : World} {d : Nat} (s : ByteArray) (v : Value) (z : Int) (hz : (z != 0) = true) (H : Hid (Calls Try.prog 38 #[.pointer (some ⟨d, 0, none⟩), .string s] w fun e w' => e = .returned (.tuple #[v, .int .i64 z]) ∧ Below w.heap.size w w')) :
    Calls Try.prog 12 #[.pointer (some ⟨d, 0, none⟩), .string s] w fun e w' => e = .returned (.int .i64 z) ∧ Below w.heap.size w w' := by
  go_enter Try.func12, Try.ntmps12
  go_wp2_with (go_at_call 38; (with_reducible refine H.out.mono ?_); rintro e w' ⟨rfl, hb⟩; have HB := Lib.hid hb; clear hb)
  go_ret
  exact ⟨rfl, HB.out⟩
def FallPost (w : World) (d : Nat) (K : Dk) (e : Ending) (w' : World) : Prop := ∃ w1 n K', e = .returned (.int .i64 14) ∧ Below w.heap.size w w1 ∧ Crashed w1 d K K.keep n K' w'
theorem sync_falls {w : World} {d b : Nat} {K : Dk} (s : ByteArray) (H : Hid (Calls Try.prog 38 #[.pointer (some ⟨d, 0, none⟩), .string s] w fun e w' => e = .returned (.tuple #[.pointer (some ⟨b, 0, none⟩), .int .i64 0]) ∧ Below w.heap.size w w'))
    (HC : Hid (∀ W, Below w.heap.size w W → Calls Try.prog 37 #[.pointer (some ⟨d, 0, none⟩)] W fun e w' => e = .returned (.int .i64 14) ∧ ∃ n K', Crashed W d K K.keep n K' w')) :
    Calls Try.prog 12 #[.pointer (some ⟨d, 0, none⟩), .string s] w (FallPost w d K) := by
  go_enter Try.func12, Try.ntmps12
  go_wp2_with (first
    | (go_at_call 38; (with_reducible refine H.out.mono ?_); rintro e w1 ⟨rfl, hb⟩; have HB := Lib.hid hb; clear hb)
    | (go_at_call 37; (with_reducible refine (HC.out _ HB.out).mono ?_); rintro e w2 ⟨rfl, n, K', hcr⟩; have HR := Lib.hid hcr; clear hcr))
  go_ret
  exact ⟨_, n, K', rfl, HB.out, HR.out⟩
theorem sync_done {w : World} {d b : Nat} (s : ByteArray) (P : World → Prop) (Q : World → Prop) (H : Hid (Calls Try.prog 38 #[.pointer (some ⟨d, 0, none⟩), .string s] w fun e w' => e = .returned (.tuple #[.pointer (some ⟨b, 0, none⟩), .int .i64 0]) ∧ Below w.heap.size w w'))
    (HC : Hid (∀ W, Below w.heap.size w W → Calls Try.prog 37 #[.pointer (some ⟨d, 0, none⟩)] W fun e w' => e = .returned (.int .i64 0) ∧ P w'))
    (HS : Hid (∀ W, P W → Calls Try.prog 39 #[.pointer (some ⟨b, 0, none⟩)] W fun e w' => e = .returned (.tuple #[]) ∧ Q w')) :
    Calls Try.prog 12 #[.pointer (some ⟨d, 0, none⟩), .string s] w fun e w' => e = .returned (.int .i64 0) ∧ Q w' := by
  go_enter Try.func12, Try.ntmps12
  go_wp2_with (first
    | (go_at_call 38; (with_reducible refine H.out.mono ?_); rintro e w1 ⟨rfl, hb⟩; have HB := Lib.hid hb; clear hb)
    | (go_at_call 37; (with_reducible refine (HC.out _ HB.out).mono ?_); rintro e w2 ⟨rfl, hp⟩; have HP := Lib.hid hp; clear hp)
    | (go_at_call 39; (with_reducible refine (HS.out _ HP.out).mono ?_); rintro e w3 ⟨rfl, hq⟩; have HQ := Lib.hid hq; clear hq))
  go_ret
  exact ⟨rfl, HQ.out⟩

/-- Sync: an error; the power goes; or the file is safe -/
inductive SyncPost (w : World) (d : Nat) (K : Dk) (s : ByteArray) : Ending → World → Prop where
  | err {w'} : errF K.on s.size (getF K.files s.data.toList) ≠ 0 → Below w.heap.size w w' → SyncPost w d K s (.returned (.int .i64 (errF K.on s.size (getF K.files s.data.toList)))) w'
  | falls {w1 w' n K'} : errF K.on s.size (getF K.files s.data.toList) = 0 → K.armed = true → ¬ 0 < K.left → Below w.heap.size w w1 → Crashed w1 d K K.keep n K' w' → SyncPost w d K s (.returned (.int .i64 14)) w'
  | done {w' F} : errF K.on s.size (getF K.files s.data.toList) = 0 → (K.armed = false ∨ 0 < K.left) → getF K.files s.data.toList = some F → Step w d K w' { counted K with files := (s.data.toList, F.sync) :: restF K.files s.data.toList } → SyncPost w d K s (.returned (.int .i64 0)) w'
theorem DiskAt.sync {w : World} {d : Nat} {K : Dk} (h : DiskAt w d K) (s : ByteArray) (hs : s.size ≤ maxLen) (hl : K.left ≤ 9223372036854775807) :
    Calls Try.prog 12 #[.pointer (some ⟨d, 0, none⟩), .string s] w (SyncPost w d K s) := by
  have HF := h.find s hs
  by_cases he : errF K.on s.size (getF K.files s.data.toList) ≠ 0
  · obtain ⟨p, hp⟩ := ptr_shape (if errn K.on s.size = 0 then (getF K.files s.data.toList).map (·.b) else none)
    rw [hp] at HF
    refine (sync_err s _ _ (by simpa using he) HF).mono ?_
    rintro e w' ⟨rfl, hb⟩
    exact .err he hb
  · have he : errF K.on s.size (getF K.files s.data.toList) = 0 := Decidable.not_not.1 he
    obtain ⟨h0, F, hF⟩ := errF_zero he
    have hon := errn_on h0
    have he2 := he
    rw [he2, if_pos h0, hF] at HF
    have hm := getF_mem hF
    by_cases hk : K.armed = false ∨ 0 < K.left
    · refine (sync_done (b := F.b) s (fun W => Step w d K W (counted K)) (fun W => Step w d K W { counted K with files := (s.data.toList, F.sync) :: restF K.files s.data.toList }) HF
        (fun W hW => ((h.below hW).count0 hon hl hk).mono fun e w' hp => ⟨hp.1, (Step.below h hW).trans hp.2⟩) (fun W hW => ?_)).mono ?_
      · have hm2 : (s.data.toList, F) ∈ (counted K).files := by rw [counted_files]; exact hm
        refine ((hW.at'.files.at' _ hm2).sync (hW.at'.files.ok _ hm2)).mono ?_
        rintro e w' ⟨rfl, h1, h2⟩
        have := hW.at'.synced hm2 h1 h2
        rw [counted_files] at this
        exact ⟨rfl, hW.trans this⟩
      · rintro e w' ⟨rfl, hst⟩
        exact .done he hk hF hst
    · have ha : K.armed = true := by cases hx : K.armed with
        | true => rfl
        | false => exact absurd (.inl hx) hk
      refine (sync_falls (b := F.b) s HF (fun W hW => (h.below hW).count14 hon hl ha (fun hx => hk (.inr hx)))).mono ?_
      rintro e w' ⟨w1, n, K', rfl, hb, hc⟩
      exact .falls he ha (fun hx => hk (.inr hx)) hb hc

end Go.Proofs.Ytlgloikhdbmgdaa.P4
