/-
  Texts of the proof of SaidKeeps8, side by side: Dk32, Wk0, Sf0, Sf2.
-/
import Derived.Test.YtbkngnjkaledlaaGreatMk23
/-
  Package disk: a call that is counted; Sync. (Disk, part 32.)
-/
namespace Go.Proofs.YtbkngnjkaledlaaGreat.P4
open Go Go.RowKit Go.Lib Go.Maps Go.ChangeMaps Go.MapKept Go.Proofs.YtbkngnjkaledlaaGreat.P3

/-- the disk behind a call that was counted and told OK -/
def counted (K : Dk) : Dk := if K.armed = true then { K with left := K.left - 1 } else K
theorem DiskAt.count0 {w : World} {d : Nat} {K : Dk} (h : DiskAt w d K) (hon : K.on = true) (hl : K.left ≤ 9223372036854775807) (hk : K.armed = false ∨ 0 < K.left) :
    Calls Tryz.prog 97 #[.pointer (some ⟨d, 0, none⟩)] w fun e w' => e = .returned (.int .i64 0) ∧ Step w d K w' (counted K) := by
  refine (h.count hon hl).mono ?_
  rintro e w' ⟨n, K', rfl, hc⟩
  unfold counted
  cases hc with
  | free h1 hb _ => rw [h1, if_neg (by decide)]; exact ⟨rfl, .below h hb⟩
  | less h1 _ hs => rw [if_pos h1]; exact ⟨rfl, hs⟩
  | falls h1 h2 _ => rcases hk with hk | hk
                     · rw [hk] at h1; cases h1
                     · exact absurd hk h2
theorem DiskAt.count14 {w : World} {d : Nat} {K : Dk} (h : DiskAt w d K) (hon : K.on = true) (hl : K.left ≤ 9223372036854775807) (ha : K.armed = true) (hk : ¬ 0 < K.left) :
    Calls Tryz.prog 97 #[.pointer (some ⟨d, 0, none⟩)] w fun e w' => e = .returned (.int .i64 14) ∧ ∃ n K', Crashed w d K K.keep n K' w' := by
  refine (h.count hon hl).mono ?_
  rintro e w' ⟨n, K', rfl, hc⟩
  cases hc with
  | free h1 hb _ => rw [ha] at h1; cases h1
  | less _ h2 hs => exact absurd h2 hk
  | falls h1 h2 hcr => exact ⟨rfl, _, _, hcr⟩
theorem counted_files (K : Dk) : (counted K).files = K.files := by unfold counted; split <;> rfl
theorem DiskAt.synced {W w' : World} {d : Nat} {K : Dk} {n : List UInt8} {F : Fl} (h : DiskAt W d K) (hm : (n, F) ∈ K.files) (hF : FileAt w' F.sync) (hf : Fr F.foot W w') : Step W d K w' { K with files := (n, F.sync) :: restF K.files n } := by
  have hp := rest_perm h.files.names hm
  have hpa := allW_perm hp
  rw [allW_cons] at hpa
  have hl := hpa.length_eq
  rw [List.length_append] at hl
  have hmany := h.many.1
  have htn : ((allW (restF K.files n)).map (·.turn)).Nodup := by
    have := (hpa.map (·.turn)).nodup_iff.1 h.files.tnd
    rw [List.map_append] at this
    exact (List.nodup_append.1 this).2.1
  have hfoot : ∀ k, F.sync.foot k → F.foot k := by
    rintro k (hk | hk | ⟨x, hx, _⟩)
    · exact .inl hk
    · exact .inr (.inl hk)
    · cases hx
  obtain ⟨h1, h2⟩ := h.file hm hF hf rfl (fun k hk => .inl (hfoot k hk)) (F.sync_ok (h.files.ok _ hm)) (fun x hx => by cases hx) (fun x hx => by cases hx) (by exact htn) (by show 0 + _ ≤ _; omega)
  exact ⟨h1, h2, hf.mono (fun k _ hk => .inr (.inr (.inl ⟨_, hm, hk⟩)))⟩

theorem sync_err {w : World} {d : Nat} (s : ByteArray) (v : Value) (z : Int) (hz : (z != 0) = true) (H : Hid (Calls Tryz.prog 98 #[.pointer (some ⟨d, 0, none⟩), .string s] w fun e w' => e = .returned (.tuple #[v, .int .i64 z]) ∧ Below w.heap.size w w')) :
    Calls Tryz.prog 50 #[.pointer (some ⟨d, 0, none⟩), .string s] w fun e w' => e = .returned (.int .i64 z) ∧ Below w.heap.size w w' := by
  go_enter Tryz.func50, Tryz.ntmps50
  go_wp2_with (go_at_call 98; (with_reducible refine H.out.mono ?_); rintro e w' ⟨rfl, hb⟩; have HB := Lib.hid hb; clear hb)
  go_ret
  exact ⟨rfl, HB.out⟩
def FallPost (w : World) (d : Nat) (K : Dk) (e : Ending) (w' : World) : Prop := ∃ w1 n K', e = .returned (.int .i64 14) ∧ Below w.heap.size w w1 ∧ Crashed w1 d K K.keep n K' w'
theorem sync_falls {w : World} {d b : Nat} {K : Dk} (s : ByteArray) (H : Hid (Calls Tryz.prog 98 #[.pointer (some ⟨d, 0, none⟩), .string s] w fun e w' => e = .returned (.tuple #[.pointer (some ⟨b, 0, none⟩), .int .i64 0]) ∧ Below w.heap.size w w'))
    (HC : Hid (∀ W, Below w.heap.size w W → Calls Tryz.prog 97 #[.pointer (some ⟨d, 0, none⟩)] W fun e w' => e = .returned (.int .i64 14) ∧ ∃ n K', Crashed W d K K.keep n K' w')) :
    Calls Tryz.prog 50 #[.pointer (some ⟨d, 0, none⟩), .string s] w (FallPost w d K) := by
  go_enter Tryz.func50, Tryz.ntmps50
  go_wp2_with (first
    | (go_at_call 98; (with_reducible refine H.out.mono ?_); rintro e w1 ⟨rfl, hb⟩; have HB := Lib.hid hb; clear hb)
    | (go_at_call 97; (with_reducible refine (HC.out _ HB.out).mono ?_); rintro e w2 ⟨rfl, n, K', hcr⟩; have HR := Lib.hid hcr; clear hcr))
  go_ret
  exact ⟨_, n, K', rfl, HB.out, HR.out⟩
theorem sync_done {w : World} {d b : Nat} (s : ByteArray) (P : World → Prop) (Q : World → Prop) (H : Hid (Calls Tryz.prog 98 #[.pointer (some ⟨d, 0, none⟩), .string s] w fun e w' => e = .returned (.tuple #[.pointer (some ⟨b, 0, none⟩), .int .i64 0]) ∧ Below w.heap.size w w'))
    (HC : Hid (∀ W, Below w.heap.size w W → Calls Tryz.prog 97 #[.pointer (some ⟨d, 0, none⟩)] W fun e w' => e = .returned (.int .i64 0) ∧ P w'))
    (HS : Hid (∀ W, P W → Calls Tryz.prog 99 #[.pointer (some ⟨b, 0, none⟩)] W fun e w' => e = .returned (.tuple #[]) ∧ Q w')) :
    Calls Tryz.prog 50 #[.pointer (some ⟨d, 0, none⟩), .string s] w fun e w' => e = .returned (.int .i64 0) ∧ Q w' := by
  go_enter Tryz.func50, Tryz.ntmps50
  go_wp2_with (first
    | (go_at_call 98; (with_reducible refine H.out.mono ?_); rintro e w1 ⟨rfl, hb⟩; have HB := Lib.hid hb; clear hb)
    | (go_at_call 97; (with_reducible refine (HC.out _ HB.out).mono ?_); rintro e w2 ⟨rfl, hp⟩; have HP := Lib.hid hp; clear hp)
    | (go_at_call 99; (with_reducible refine (HS.out _ HP.out).mono ?_); rintro e w3 ⟨rfl, hq⟩; have HQ := Lib.hid hq; clear hq))
  go_ret
  exact ⟨rfl, HQ.out⟩

/-- Sync: an error; the power goes; or the file is safe -/
inductive SyncPost (w : World) (d : Nat) (K : Dk) (s : ByteArray) : Ending → World → Prop where
  | err {w'} : errF K.on s.size (getF K.files s.data.toList) ≠ 0 → Below w.heap.size w w' → SyncPost w d K s (.returned (.int .i64 (errF K.on s.size (getF K.files s.data.toList)))) w'
  | falls {w1 w' n K'} : errF K.on s.size (getF K.files s.data.toList) = 0 → K.armed = true → ¬ 0 < K.left → Below w.heap.size w w1 → Crashed w1 d K K.keep n K' w' → SyncPost w d K s (.returned (.int .i64 14)) w'
  | done {w' F} : errF K.on s.size (getF K.files s.data.toList) = 0 → (K.armed = false ∨ 0 < K.left) → getF K.files s.data.toList = some F → Step w d K w' { counted K with files := (s.data.toList, F.sync) :: restF K.files s.data.toList } → SyncPost w d K s (.returned (.int .i64 0)) w'
theorem DiskAt.sync {w : World} {d : Nat} {K : Dk} (h : DiskAt w d K) (s : ByteArray) (hs : s.size ≤ maxLen) (hl : K.left ≤ 9223372036854775807) :
    Calls Tryz.prog 50 #[.pointer (some ⟨d, 0, none⟩), .string s] w (SyncPost w d K s) := by
  have HF := h.find s hs
  by_cases he : errF K.on s.size (getF K.files s.data.toList) ≠ 0
  · obtain ⟨p, hp⟩ := ptr_shape (if errn K.on s.size = 0 then (getF K.files s.data.toList).map (·.b) else none)
    rw [hp] at HF
    refine (sync_err s _ _ (by simpa using he) HF).mono ?_
    rintro e w' ⟨rfl, hb⟩
    exact .err he hb
  · have he : errF K.on s.size (getF K.files s.data.toList) = 0 := Decidable.not_not.1 he
    obtain ⟨h0, F, hF⟩ := errF_zero he
    have hon := errn_on h0
    have he2 := he
    rw [he2, if_pos h0, hF] at HF
    have hm := getF_mem hF
    by_cases hk : K.armed = false ∨ 0 < K.left
    · refine (sync_done (b := F.b) s (fun W => Step w d K W (counted K)) (fun W => Step w d K W { counted K with files := (s.data.toList, F.sync) :: restF K.files s.data.toList }) HF
        (fun W hW => ((h.below hW).count0 hon hl hk).mono fun e w' hp => ⟨hp.1, (Step.below h hW).trans hp.2⟩) (fun W hW => ?_)).mono ?_
      · have hm2 : (s.data.toList, F) ∈ (counted K).files := by rw [counted_files]; exact hm
        refine ((hW.at'.files.at' _ hm2).sync (hW.at'.files.ok _ hm2)).mono ?_
        rintro e w' ⟨rfl, h1, h2⟩
        have := hW.at'.synced hm2 h1 h2
        rw [counted_files] at this
        exact ⟨rfl, hW.trans this⟩
      · rintro e w' ⟨rfl, hst⟩
        exact .done he hk hF hst
    · have ha : K.armed = true := by cases hx : K.armed with
        | true => rfl
        | false => exact absurd (.inl hx) hk
      refine (sync_falls (b := F.b) s HF (fun W hW => (h.below hW).count14 hon hl ha (fun hx => hk (.inr hx)))).mono ?_
      rintro e w' ⟨w1, n, K', rfl, hb, hc⟩
      exact .falls he ha (fun hx => hk (.inr hx)) hb hc

end Go.Proofs.YtbkngnjkaledlaaGreat.P4

/-
  A write of the program's disk: what it leaves, of the program's disk alone. (For store and what stands on it.)
-/
namespace Go.Proofs.YtbkngnjkaledlaaGreat.P4
open Go Go.RowKit Go.Lib Go.Maps Go.ChangeMaps Go.MapKept Go.Proofs.YtbkngnjkaledlaaGreat.P3

section
variable {w w1 : World} {d : Nat} {K K1 : Dk}
/-- what a write of the program's disk leaves -/
def WK (d : Nat) (K : Dk) (s : ByteArray) (i : Int) (data : ByteArray) (z : Int) (K1 : Dk) (w1 : World) : Prop :=
  (P4.writeE K s i data.size ≠ 0 ∧ z = P4.writeE K s i data.size ∧ K1 = K) ∨
  (P4.writeE K s i data.size = 0 ∧ (K.armed = true ∧ ¬ 0 < K.left) ∧ z = 14 ∧ ∃ w0 K0 n, DiskAt w0 d K0 ∧ Written K s.data.toList i.toNat data K0 ∧ Crashed w0 d K0 K.keep n K1 w1) ∨
  (P4.writeE K s i data.size = 0 ∧ (K.armed = false ∨ 0 < K.left) ∧ z = 0 ∧ ∃ K0, Written K s.data.toList i.toNat data K0 ∧ K1 = counted K0)
theorem DiskAt.writeK (hK : DiskAt w d K) (hl : K.left ≤ 9223372036854775807) (ht : K.turn < 9000) (s : ByteArray) (i : Int) (data : ByteArray) (hs : s.size ≤ maxLen) :
    Calls Tryz.prog 41 #[.pointer (some ⟨d, 0, none⟩), .string s, .int .i64 i, .string data] w fun e w1 => ∃ z K1, e = .returned (.int .i64 z) ∧ Step w d K w1 K1 ∧ WK d K s i data z K1 w1 := by
  refine (hK.write s i data hs hl ht).mono fun e w1 hp => ?_
  rcases hp with ⟨h1, h2, h3⟩ | ⟨h1, w0, K0, hst, hwr, hcp⟩
  · exact ⟨_, K, h2, Step.below hK h3, .inl ⟨h1, rfl, rfl⟩⟩
  · have hsm := hwr.same
    have e1 : K0.armed = K.armed := by rw [hsm]
    have e2 : K0.left = K.left := by rw [hsm]
    have e3 : K0.keep = K.keep := by rw [hsm]
    obtain ⟨x, K', rfl, hc⟩ := hcp
    cases hc with
    | free q1 q2 q3 => exact ⟨0, K0, rfl, hst.trans (Step.below hst.at' q2), .inr (.inr ⟨h1, .inl (by rw [← e1]; exact q1), rfl, K0, hwr, by unfold counted; rw [if_neg (by rw [q1]; decide)]⟩)⟩
    | less q1 q2 q3 => exact ⟨0, _, rfl, hst.trans q3, .inr (.inr ⟨h1, .inr (by rw [← e2]; exact q2), rfl, K0, hwr, by unfold counted; rw [if_pos q1]⟩)⟩
    | @falls _ _ _ n _ q1 q2 q3 =>
      rw [e3] at q3
      exact ⟨14, K', rfl, hst.trans q3.step, .inr (.inl ⟨h1, ⟨by rw [← e1]; exact q1, by rw [← e2]; exact q2⟩, rfl, w0, K0, n, hst.at', hwr, q3⟩)⟩
end
end Go.Proofs.YtbkngnjkaledlaaGreat.P4

/-
  Writes of the program's disk, one behind the other: a trace; the document's disk walks along it: the law's own fill. (For the seat of StorePlays.)
-/
namespace Go.Proofs.YtbkngnjkaledlaaGreat.P8
open Go Go.RowKit Go.Lib Go.Maps Go.ChangeMaps Go.MapKept Go.Proofs.YtbkngnjkaledlaaGreat.P3 Go.Proofs.YtbkngnjkaledlaaGreat.P4

/-- the program's disk was written so, one sector behind the other, up to the first error -/
inductive WTr (d : Nat) (s : ByteArray) : Dk → List (Int × ByteArray) → Int → Dk → Prop
  | nil (K : Dk) : WTr d s K [] 0 K
  | ok {K K1 K2 : Dk} {i : Int} {data : ByteArray} {l : List (Int × ByteArray)} {z : Int} {w0 w1 : World} (hK : DiskAt w0 d K) (ht : K.turn < 8999) (hdm : data.size ≤ maxLen) (h : WK d K s i data 0 K1 w1) (rest : WTr d s K1 l z K2) : WTr d s K ((i, data) :: l) z K2
  | bad {K K1 : Dk} {i : Int} {data : ByteArray} {l : List (Int × ByteArray)} {z : Int} {w0 w1 : World} (hK : DiskAt w0 d K) (ht : K.turn < 8999) (hdm : data.size ≤ maxLen) (h : WK d K s i data z K1 w1) (hz : z ≠ 0) : WTr d s K ((i, data) :: l) z K1
theorem WTr.inv {d : Nat} {s : ByteArray} {K K2 : Dk} {i : Int} {data : ByteArray} {l : List (Int × ByteArray)} {z : Int} (h : WTr d s K ((i, data) :: l) z K2) :
    ∃ z1 K1 w0 w1, DiskAt w0 d K ∧ K.turn < 8999 ∧ data.size ≤ maxLen ∧ WK d K s i data z1 K1 w1 ∧ ((z1 = 0 ∧ WTr d s K1 l z K2) ∨ (z1 ≠ 0 ∧ z = z1 ∧ K2 = K1)) := by
  cases h with
  | ok hK ht hdm h rest => exact ⟨0, _, _, _, hK, ht, hdm, h, .inl ⟨rfl, rest⟩⟩
  | bad hK ht hdm h hz => exact ⟨_, _, _, _, hK, ht, hdm, h, .inr ⟨hz, rfl, rfl⟩⟩
theorem WTr.nil_inv {d : Nat} {s : ByteArray} {K K2 : Dk} {z : Int} (h : WTr d s K [] z K2) : z = 0 ∧ K2 = K := by cases h; exact ⟨rfl, rfl⟩
theorem WTr.app {d : Nat} {s : ByteArray} {z1 : Int} {K K1 : Dk} : ∀ {l1 : List (Int × ByteArray)}, WTr d s K l1 z1 K1 → ∀ {l2 : List (Int × ByteArray)} {z : Int} {K2 : Dk}, ((z1 = 0 ∧ WTr d s K1 l2 z K2) ∨ (z1 ≠ 0 ∧ z = z1 ∧ K2 = K1)) → WTr d s K (l1 ++ l2) z K2 := by
  intro l1 h
  induction h with
  | nil K =>
    intro l2 z K2 k
    rcases k with ⟨_, k⟩ | ⟨k, _⟩
    · exact k
    · exact absurd rfl k
  | ok hK ht hdm h rest ih =>
    intro l2 z K2 k
    exact .ok hK ht hdm h (ih k)
  | bad hK ht hdm h hz =>
    intro l2 z K2 k
    rcases k with ⟨k, _⟩ | ⟨_, rfl, rfl⟩
    · exact absurd k hz
    · exact .bad hK ht hdm h hz
/-- sectors of zero bytes, from n on up to m -/
def zerosW (zs : ByteArray) (n m : Nat) : List (Int × ByteArray) := (List.range (m - n)).map fun k => (((n + k : Nat) : Int), zs)
theorem zerosW_done {zs : ByteArray} {n m : Nat} (h : m ≤ n) : zerosW zs n m = [] := by unfold zerosW; rw [Nat.sub_eq_zero_of_le h]; rfl
theorem zerosW_next {zs : ByteArray} {n m : Nat} (h : n < m) : zerosW zs n m = ((n : Int), zs) :: zerosW zs (n + 1) m := by
  unfold zerosW
  obtain ⟨q, hq⟩ : ∃ q, m - n = q + 1 := ⟨m - n - 1, by omega⟩
  rw [hq, List.range_succ_eq_map, List.map_cons, show m - (n + 1) = q by omega, List.map_map]
  have e : ∀ k ∈ List.range q, ((fun k => (((n + k : Nat) : Int), zs)) ∘ Nat.succ) k = (((n + 1 + k : Nat) : Int), zs) := fun k _ => by
    show (((n + (k + 1) : Nat) : Int), zs) = _
    rw [show n + (k + 1) = n + 1 + k by omega]
  rw [List.map_congr_left e]
  rfl
end Go.Proofs.YtbkngnjkaledlaaGreat.P8

/-
  How long the file is along a trace; the program's and the document's. (For the seat of StorePlays.)
-/
namespace Go.Proofs.YtbkngnjkaledlaaGreat.P8
open Go Go.RowKit Go.Lib Go.Maps Go.ChangeMaps Go.MapKept Go.Proofs.YtbkngnjkaledlaaGreat.P3 Go.Proofs.YtbkngnjkaledlaaGreat.P4

/-- the power is on, the name is good, the file has m sectors (none, if there is no such file) -/
def SzK (K : Dk) (s : ByteArray) (m : Nat) : Prop := K.on = true ∧ errn K.on s.size = 0 ∧ sizeN K.files s.data.toList = m
theorem counted_files (K : Dk) : (counted K).files = K.files := by unfold counted; split <;> rfl
theorem counted_on (K : Dk) : (counted K).on = K.on := by unfold counted; split <;> rfl
theorem sizeN_cons (n : List UInt8) (F : Fl) (L : Files) : sizeN ((n, F) :: L) n = F.secs.length := by simp [sizeN, getF]
theorem write_secs (F : Fl) (sl : Value) (b t i : Nat) (x : ByteArray) (h : i ≤ F.secs.length) : (F.write sl b t i x).secs.length = max F.secs.length (i + 1) := by
  have hlen : (F.write sl b t i x).secs.length = if i = F.secs.length then F.secs.length + 1 else F.secs.length := by
    unfold Fl.write
    split <;> simp
  rw [hlen]
  split <;> omega
theorem writeE_in {K : Dk} {s : ByteArray} {i : Int} {n : Nat} (h : P4.writeE K s i n = 0) : 0 ≤ i ∧ i ≤ (sizeN K.files s.data.toList : Int) := by
  unfold P4.writeE at h
  split at h
  · exact absurd h (by assumption)
  · split at h
    · exact absurd h (by decide)
    · split at h
      · exact absurd h (by decide)
      · omega
theorem SzK.write {d : Nat} {K K1 : Dk} {s data : ByteArray} {i : Int} {m : Nat} {w1 : World} (h : SzK K s m) (hw : WK d K s i data 0 K1 w1) : SzK K1 s (max m (i.toNat + 1)) ∧ 0 ≤ i ∧ i.toNat ≤ m := by
  obtain ⟨h1, h2, h3⟩ := h
  unfold WK at hw
  rcases hw with ⟨q1, q2, _⟩ | ⟨_, _, q, _⟩ | ⟨q1, _, _, K0, ⟨mm, sl, b, F, hF, rfl⟩, rfl⟩
  · exact absurd q2.symm q1
  · exact absurd q (by decide)
  · have hi := writeE_in q1
    have hl : F.secs.length = m := by
      rcases hF with e | ⟨e, b0, rfl⟩
      · rw [← h3]; unfold sizeN; rw [e]
      · rw [← h3]; unfold sizeN; rw [e]; rfl
    refine ⟨⟨by rw [counted_on]; exact h1, by rw [counted_on]; exact h2, ?_⟩, hi.1, by omega⟩
    rw [counted_files]
    show sizeN ((s.data.toList, F.write sl b (K.turn + 1) i.toNat data) :: restF K.files s.data.toList) s.data.toList = _
    rw [sizeN_cons, write_secs _ _ _ _ _ _ (by omega), hl]
/-- a trace that was done to its end: the disk that it leaves, how long the file then is -/
def endW : Nat → List (Int × ByteArray) → Nat
  | m, [] => m
  | m, (i, _) :: l => endW (max m (i.toNat + 1)) l
theorem endW_app (l k : List (Int × ByteArray)) : ∀ m, endW m (l ++ k) = endW (endW m l) k := by
  induction l with
  | nil => intro m; rfl
  | cons x l ih => intro m; exact ih _
theorem endW_zeros (zs : ByteArray) (n : Nat) : ∀ (q m : Nat), n - m = q → endW m (zerosW zs m n) = max m n := by
  intro q
  induction q with
  | zero => intro m h; rw [zerosW_done (by omega)]; show m = _; omega
  | succ q ih =>
    intro m h
    rw [zerosW_next (by omega)]
    show endW (max m ((m : Int).toNat + 1)) _ = _
    rw [show max m ((m : Int).toNat + 1) = m + 1 by omega, ih (m + 1) (by omega)]
    omega
theorem WTr.size {d : Nat} {s : ByteArray} {K K2 : Dk} {l : List (Int × ByteArray)} {m : Nat} (h : WTr d s K l 0 K2) (hs : SzK K s m) : SzK K2 s (endW m l) := by
  generalize hz : (0 : Int) = z at h
  induction h generalizing m with
  | nil K => exact hs
  | ok hK ht hdm hw rest ih => exact ih (hs.write hw).1 hz
  | bad hK ht hdm hw hne => exact absurd hz.symm hne
end Go.Proofs.YtbkngnjkaledlaaGreat.P8
