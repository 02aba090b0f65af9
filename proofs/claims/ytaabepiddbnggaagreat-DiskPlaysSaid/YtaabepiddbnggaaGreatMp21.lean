/-
  Texts of the proof of SaidPlays, side by side: TwA.
-/
import Derived.Test.YtaabepiddbnggaaGreatMp20
import Derived.Shelf.Slices.In.SortNone
import Derived.Deep.RegionHeld3
/-
  Package disk: Rename in all cases, Remove, List, Twin. (Dk37 to Dk42 in one text: a claim has at most 60.)
-/
namespace Go.Proofs.YtaabepiddbnggaaGreat.P4
open Go Go.RowKit Go.Lib Go.Maps Go.ChangeMaps Go.MapKept Go.Proofs.YtaabepiddbnggaaGreat.P3

set_option maxRecDepth 100000 in
theorem check2_bad (w : World) (d B : Nat) (s t : ByteArray) (c1 : w.cell? ⟨d, 1, none⟩ = some (.bool true)) (b0 : w.cell? ⟨B, 0, none⟩ = some (.string s)) (b1 : w.cell? ⟨B, 1, none⟩ = some (.string t)) (h1 : 1 ≤ s.size) (h2 : s.size ≤ 40) (ht : t.size < 1 ∨ 40 < t.size) :
    Calls Tryz.prog 86 #[.pointer (some ⟨d, 0, none⟩), .slice (some ⟨B, 0, none⟩) 2 2] w fun e w' => e = .returned (.int .i64 1) ∧ w = w' := by
  have H := Lib.hid (on_any w d true c1)
  have h3 : ¬ s.size < 1 := by omega
  have h4 : ¬ 40 < s.size := by omega
  rcases ht with ht | ht
  · go_enter Tryz.func86, Tryz.ntmps86
    go_wp2_with (go_at_call 23; (with_reducible refine H.out.mono ?_); rintro e w' ⟨rfl, rfl⟩)
    go_loop [12] (fun i => i = .int .i64 0 ∨ i = .int .i64 1) (fun i => (2 - intOf i).toNat)
    case atStart => exact .inl rfl
    case round =>
      rcases hrel with rfl | rfl
      · go_wp2
        go_round
        case rel => exact .inr rfl
        case measure => simp [intOf]
      · go_wp2
        go_ret
        exact ⟨rfl, rfl⟩
  · have g3 : ¬ t.size < 1 := by omega
    have g4 : 1 ≤ t.size := by omega
    go_enter Tryz.func86, Tryz.ntmps86
    go_wp2_with (go_at_call 23; (with_reducible refine H.out.mono ?_); rintro e w' ⟨rfl, rfl⟩)
    go_loop [12] (fun i => i = .int .i64 0 ∨ i = .int .i64 1) (fun i => (2 - intOf i).toNat)
    case atStart => exact .inl rfl
    case round =>
      rcases hrel with rfl | rfl
      · go_wp2
        go_round
        case rel => exact .inr rfl
        case measure => simp [intOf]
      · go_wp2
        go_ret
        exact ⟨rfl, rfl⟩
/-- what stands against a call of two names -/
def errn2 (on : Bool) (n m : Nat) : Int := if errn on n = 0 then errn on m else errn on n
theorem check2 (w : World) (d B : Nat) (s t : ByteArray) (on : Bool) (c1 : w.cell? ⟨d, 1, none⟩ = some (.bool on)) (b0 : w.cell? ⟨B, 0, none⟩ = some (.string s)) (b1 : w.cell? ⟨B, 1, none⟩ = some (.string t)) :
    Calls Tryz.prog 86 #[.pointer (some ⟨d, 0, none⟩), .slice (some ⟨B, 0, none⟩) 2 2] w fun e w' => e = .returned (.int .i64 (errn2 on s.size t.size)) ∧ w = w' := by
  cases on with
  | false => exact check_off w d _ c1
  | true =>
    have bad : ∀ n, n < 1 ∨ 40 < n → errn true n = 1 := fun n h => by unfold errn; rw [if_neg (by decide), if_pos h]
    have good : ∀ n, ¬ (n < 1 ∨ 40 < n) → errn true n = 0 := fun n h => by unfold errn; rw [if_neg (by decide), if_neg h]
    unfold errn2
    by_cases hs : s.size < 1 ∨ 40 < s.size
    · rw [bad _ hs, if_neg (by decide)]
      exact check_bad w d B s 2 (by omega) c1 b0 hs
    · rw [good _ hs, if_pos rfl]
      by_cases ht : t.size < 1 ∨ 40 < t.size
      · rw [bad _ ht]
        exact check2_bad w d B s t c1 b0 b1 (by omega) (by omega) ht
      · rw [good _ ht]
        exact check2_ok w d B s t c1 b0 b1 (by omega) (by omega) (by omega) (by omega)
theorem rename_err1 {w : World} {d : Nat} (s t : ByteArray) (z : Int) (hz : (z != 0) = true) (HK : Hid (Calls Tryz.prog 86 #[.pointer (some ⟨d, 0, none⟩), .slice (some ⟨w.heap.size, 0, none⟩) 2 2] (w.alloc (.cells #[.string s, .string t] 9)) fun e w' => e = .returned (.int .i64 z) ∧ w.alloc (.cells #[.string s, .string t] 9) = w')) :
    Calls Tryz.prog 32 #[.pointer (some ⟨d, 0, none⟩), .string s, .string t] w fun e w' => e = .returned (.int .i64 z) ∧ Below w.heap.size w w' := by
  go_enter Tryz.func32, Tryz.ntmps32
  go_wp2_with (go_at_call 86; (with_reducible refine HK.out.mono ?_); rintro e w1 ⟨rfl, rfl⟩)
  go_ret
  exact ⟨rfl, below_new _ _⟩
theorem rename_err2 {w : World} {d : Nat} (s t : ByteArray) (v : Value) (z : Int) (hz : (z != 0) = true) (HK : Hid (Calls Tryz.prog 86 #[.pointer (some ⟨d, 0, none⟩), .slice (some ⟨w.heap.size, 0, none⟩) 2 2] (w.alloc (.cells #[.string s, .string t] 9)) fun e w' => e = .returned (.int .i64 0) ∧ w.alloc (.cells #[.string s, .string t] 9) = w'))
    (H : Hid (Calls Tryz.prog 95 #[.pointer (some ⟨d, 0, none⟩), .string s] (w.alloc (.cells #[.string s, .string t] 9)) fun e w' => e = .returned (.tuple #[v, .int .i64 z]) ∧ Below w.heap.size w w')) :
    Calls Tryz.prog 32 #[.pointer (some ⟨d, 0, none⟩), .string s, .string t] w fun e w' => e = .returned (.int .i64 z) ∧ Below w.heap.size w w' := by
  go_enter Tryz.func32, Tryz.ntmps32
  go_wp2_with (first
    | (go_at_call 86; (with_reducible refine HK.out.mono ?_); rintro e w1 ⟨rfl, rfl⟩)
    | (go_at_call 95; (with_reducible refine H.out.mono ?_); rintro e w1 ⟨rfl, hb⟩; have HB := Lib.hid hb; clear hb))
  go_ret
  exact ⟨rfl, HB.out⟩

/-- what stands against a Rename -/
def renE (K : Dk) (s t : ByteArray) : Int := if errn2 K.on s.size t.size = 0 then errF K.on s.size (getF K.files s.data.toList) else errn2 K.on s.size t.size
/-- Rename: an error; the power goes; or the file has the other name -/
inductive RenPost (w : World) (d : Nat) (K : Dk) (s t : ByteArray) : Ending → World → Prop where
  | err {w'} : renE K s t ≠ 0 → Below w.heap.size w w' → RenPost w d K s t (.returned (.int .i64 (renE K s t))) w'
  | falls {w1 w' n K'} : renE K s t = 0 → K.armed = true → ¬ 0 < K.left → Below w.heap.size w w1 → Crashed w1 d K K.keep n K' w' → RenPost w d K s t (.returned (.int .i64 14)) w'
  | done {w' F} : renE K s t = 0 → (K.armed = false ∨ 0 < K.left) → getF K.files s.data.toList = some F → Step w d K w' { counted K with files := renF K.files s.data.toList t.data.toList F } → RenPost w d K s t (.returned (.int .i64 0)) w'
theorem errn_zero {n : Nat} (h : errn true n = 0) : 1 ≤ n ∧ n ≤ 40 := by
  unfold errn at h
  rw [if_neg (by decide)] at h
  by_cases hn : n < 1 ∨ 40 < n
  · rw [if_pos hn] at h; cases h
  · omega
theorem DiskAt.renames {w : World} {d : Nat} {K : Dk} (h : DiskAt w d K) (s t : ByteArray) (hs : s.size ≤ maxLen) (hl : K.left ≤ 9223372036854775807) :
    Calls Tryz.prog 32 #[.pointer (some ⟨d, 0, none⟩), .string s, .string t] w (RenPost w d K s t) := by
  have hb := below_new w (.cells #[.string s, .string t] 9)
  have hd2 := h.below hb
  have HK := Lib.hid (check2 (w.alloc (.cells #[.string s, .string t] 9)) d w.heap.size s t K.on (cell_at hd2.blk 1) (cell_at (new_at w _ _) 0) (cell_at (new_at w _ _) 1))
  by_cases he : errn2 K.on s.size t.size = 0
  · have hE : renE K s t = errF K.on s.size (getF K.files s.data.toList) := by unfold renE; rw [if_pos he]
    have h0 : errn K.on s.size = 0 := by
      unfold errn2 at he
      by_cases h1 : errn K.on s.size = 0
      · exact h1
      · rw [if_neg h1] at he; exact he
    have h1 : errn K.on t.size = 0 := by unfold errn2 at he; rw [if_pos h0] at he; exact he
    have hon := errn_on h0
    rw [hon] at h0 h1
    obtain ⟨a1, a2⟩ := errn_zero h0
    obtain ⟨b1, b2⟩ := errn_zero h1
    by_cases hf : errF K.on s.size (getF K.files s.data.toList) ≠ 0
    · rw [he] at HK
      have HF := hd2.find s hs
      have HF2 := HF.mono fun e w' ⟨a, b⟩ => (⟨a, thenBelow hb b⟩ : _ ∧ Below w.heap.size w w')
      obtain ⟨p, hp⟩ := ptr_shape (if errn K.on s.size = 0 then (getF K.files s.data.toList).map (·.b) else none)
      rw [hp] at HF2
      refine (rename_err2 s t _ _ (by simpa using hf) HK (Lib.hid HF2)).mono ?_
      rintro e w' ⟨rfl, hb⟩
      rw [← hE]
      exact .err (by rw [hE]; exact hf) hb
    · have hf : errF K.on s.size (getF K.files s.data.toList) = 0 := Decidable.not_not.1 hf
      obtain ⟨_, F, hF⟩ := errF_zero hf
      refine (h.rename hon hl s t a1 a2 b1 b2 hF).mono ?_
      rintro e w' (⟨hk, rfl, hst⟩ | ⟨ha, hk, w1, n, K', rfl, hb, hc⟩)
      · exact .done (hE.trans hf) hk hF hst
      · exact .falls (hE.trans hf) ha hk hb hc
  · have hE : renE K s t = errn2 K.on s.size t.size := by unfold renE; rw [if_neg he]
    refine (rename_err1 s t _ (by simpa using he) HK).mono ?_
    rintro e w' ⟨rfl, hb⟩
    rw [← hE]
    exact .err (by rw [hE]; exact he) hb

theorem DiskAt.removed {w w' : World} {d b : Nat} {K : Dk} {f : List UInt8} (h : DiskAt w d K) (hb : K.m = some b) (hmap : MapAt w' (some b) (delL (dir K.files) f)) (ho : Only b w w') :
    Step w d K w' { K with files := restF K.files f } := by
  have hf : Fr (fun k => k = b) w w' := .only ho rfl
  have hdb : d ≠ b := fun e => h.mapNe (by rw [hb, e])
  have hs1 := rest_sub K.files f
  have hmem : ∀ p ∈ restF K.files f, p ∈ K.files := fun p hp => hs1.subset hp
  have hwsub := allW_sub hs1
  have hmany := h.many
  have hmapb : ∃ es cl, w.heap[b]? = some (.map es cl) := by
    rcases h.map with ⟨h1, _⟩ | ⟨b', D, h1, ⟨es, cl, h2, _⟩, _⟩
    · rw [h1] at hb; cases hb
    · rw [h1] at hb
      obtain rfl : b' = b := by simpa using hb
      exact ⟨_, _, h2⟩
  have hfb : ∀ p ∈ K.files, ¬ p.2.foot b := fun p hp hk => by
    obtain ⟨c, ty, h1, _⟩ := (h.files.at' p hp).kinds b hk
    obtain ⟨es, cl, h2⟩ := hmapb
    rw [h2] at h1; cases h1
  refine ⟨⟨ho.keep h.blk hdb, owns_fr h.keep hf (fun g hg hk => h.kvfar g hg (.inr (.inl (by rw [hb, hk])))), ?_, ⟨?_, ?_, ?_, ?_, ?_, ?_, ?_⟩, ?_, ?_, ?_⟩, ?_, ?_⟩
  · show MapAt w' K.m (dir (restF K.files f))
    rw [hb, dir_rest]
    exact hmap
  · intro p hp
    exact (h.files.at' p (hmem p hp)).fr hf (fun k hk e => hfb p (hmem p hp) (e ▸ hk))
  · exact fun p hp => h.files.ok p (hmem p hp)
  · exact h.files.names.sublist (hs1.map _)
  · exact h.files.apart.sublist hs1
  · show (restF K.files f).length ≤ 60
    have h2 := hs1.length_le
    have h3 := h.files.few
    omega
  · exact fun p hp => h.files.long p (hmem p hp)
  · exact h.files.tnd.sublist (hwsub.map _)
  · exact fun x hx => h.still x (hwsub.subset hx)
  · exact fun x hx => h.turns x (hwsub.subset hx)
  · exact ⟨Nat.le_trans hwsub.length_le hmany.1, hmany.2⟩
  · rintro k (hk | hk | ⟨p, hp, hk⟩ | hk)
    · exact .inl (.inl hk)
    · exact .inl (.inr (.inl hk))
    · exact .inl (.inr (.inr (.inl ⟨p, hmem p hp, hk⟩)))
    · exact .inl (.inr (.inr (.inr hk)))
  · exact .only ho (.inr (.inl hb))
theorem DiskAt.remAfter {w : World} {d : Nat} {K : Dk} {F : Fl} (h : DiskAt w d K) (s : ByteArray) (hm : (s.data.toList, F) ∈ K.files) (hs : s.size ≤ maxLen) :
    ∃ b w2, K.m = some b ∧ (Builtin.delete_ #[65, 9] 0 #[.map (some b), .string s]).run Tryz.prog w = .ok (.tuple #[]) w2 ∧ Step w d K w2 { K with files := restF K.files s.data.toList } := by
  obtain ⟨b, hb⟩ : ∃ b, K.m = some b := by
    rcases h.map with ⟨_, h2⟩ | ⟨b, D, h1, _⟩
    · have h3 : dir K.files = [] := h2
      unfold dir at h3
      rw [List.map_eq_nil_iff] at h3
      rw [h3] at hm; cases hm
    · exact ⟨b, h1⟩
  have hdn : ((dir K.files).map (·.1)).Nodup := by rw [dir_names]; exact h.files.names
  have hmp := h.map
  rw [hb] at hmp
  obtain ⟨w2, hrun, hm2, ht2, _⟩ := hmp.del hdn hs 0
  exact ⟨b, w2, hb, hrun, h.removed hb hm2 (turned_only (ht2 b rfl))⟩

theorem remove_err {w : World} {d : Nat} (s : ByteArray) (v : Value) (z : Int) (hz : (z != 0) = true) (H : Hid (Calls Tryz.prog 95 #[.pointer (some ⟨d, 0, none⟩), .string s] w fun e w' => e = .returned (.tuple #[v, .int .i64 z]) ∧ Below w.heap.size w w')) :
    Calls Tryz.prog 34 #[.pointer (some ⟨d, 0, none⟩), .string s] w fun e w' => e = .returned (.int .i64 z) ∧ Below w.heap.size w w' := by
  go_enter Tryz.func34, Tryz.ntmps34
  go_wp2_with (go_at_call 95; (with_reducible refine H.out.mono ?_); rintro e w' ⟨rfl, hb⟩; have HB := Lib.hid hb; clear hb)
  go_ret
  exact ⟨rfl, HB.out⟩
theorem remove_falls {w : World} {d b : Nat} {K : Dk} (s : ByteArray) (H : Hid (Calls Tryz.prog 95 #[.pointer (some ⟨d, 0, none⟩), .string s] w fun e w' => e = .returned (.tuple #[.pointer (some ⟨b, 0, none⟩), .int .i64 0]) ∧ Below w.heap.size w w'))
    (HC : Hid (∀ W, Below w.heap.size w W → Calls Tryz.prog 92 #[.pointer (some ⟨d, 0, none⟩)] W fun e w' => e = .returned (.int .i64 14) ∧ ∃ n K', Crashed W d K K.keep n K' w')) :
    Calls Tryz.prog 34 #[.pointer (some ⟨d, 0, none⟩), .string s] w (FallPost w d K) := by
  go_enter Tryz.func34, Tryz.ntmps34
  go_wp2_with (first
    | (go_at_call 95; (with_reducible refine H.out.mono ?_); rintro e w1 ⟨rfl, hb⟩; have HB := Lib.hid hb; clear hb)
    | (go_at_call 92; (with_reducible refine (HC.out _ HB.out).mono ?_); rintro e w2 ⟨rfl, n, K', hcr⟩; have HR := Lib.hid hcr; clear hcr))
  go_ret
  exact ⟨_, n, K', rfl, HB.out, HR.out⟩
set_option maxRecDepth 100000 in
theorem remove_done {w : World} {d b : Nat} (s : ByteArray) (P : World → Prop) (Q : World → Prop)
    (H : Hid (Calls Tryz.prog 95 #[.pointer (some ⟨d, 0, none⟩), .string s] w fun e w' => e = .returned (.tuple #[.pointer (some ⟨b, 0, none⟩), .int .i64 0]) ∧ Below w.heap.size w w'))
    (HC : Hid (∀ W, Below w.heap.size w W → Calls Tryz.prog 92 #[.pointer (some ⟨d, 0, none⟩)] W fun e w' => e = .returned (.int .i64 0) ∧ P w'))
    (HP : Hid (∀ W, P W → ∃ m w2, W.cell? ⟨d, 0, none⟩ = some (.map (some m)) ∧ (Builtin.delete_ #[65, 9] 0 #[.map (some m), .string s]).run Tryz.prog W = .ok (.tuple #[]) w2 ∧ Q w2)) :
    Calls Tryz.prog 34 #[.pointer (some ⟨d, 0, none⟩), .string s] w fun e w' => e = .returned (.int .i64 0) ∧ Q w' := by
  go_enter Tryz.func34, Tryz.ntmps34
  go_wp2_with (first
    | (go_at_call 95; (with_reducible refine H.out.mono ?_); rintro e w1 ⟨rfl, hb⟩; have HB := Lib.hid hb; clear hb)
    | (go_at_call 92; (with_reducible refine (HC.out _ HB.out).mono ?_); rintro e w2 ⟨rfl, hp⟩; obtain ⟨m, w4, c0, hdel, hq⟩ := HP.out _ hp; have HQ := Lib.hid hq; clear hq hp))
  go_ret
  exact ⟨rfl, HQ.out⟩
/-- Remove: an error; the power goes; or the file is gone -/
inductive RemPost (w : World) (d : Nat) (K : Dk) (s : ByteArray) : Ending → World → Prop where
  | err {w'} : errF K.on s.size (getF K.files s.data.toList) ≠ 0 → Below w.heap.size w w' → RemPost w d K s (.returned (.int .i64 (errF K.on s.size (getF K.files s.data.toList)))) w'
  | falls {w1 w' n K'} : errF K.on s.size (getF K.files s.data.toList) = 0 → K.armed = true → ¬ 0 < K.left → Below w.heap.size w w1 → Crashed w1 d K K.keep n K' w' → RemPost w d K s (.returned (.int .i64 14)) w'
  | done {w'} : errF K.on s.size (getF K.files s.data.toList) = 0 → (K.armed = false ∨ 0 < K.left) → Step w d K w' { counted K with files := restF K.files s.data.toList } → RemPost w d K s (.returned (.int .i64 0)) w'
theorem DiskAt.remove {w : World} {d : Nat} {K : Dk} (h : DiskAt w d K) (s : ByteArray) (hs : s.size ≤ maxLen) (hl : K.left ≤ 9223372036854775807) :
    Calls Tryz.prog 34 #[.pointer (some ⟨d, 0, none⟩), .string s] w (RemPost w d K s) := by
  have HF := h.find s hs
  by_cases he : errF K.on s.size (getF K.files s.data.toList) ≠ 0
  · obtain ⟨p, hp⟩ := ptr_shape (if errn K.on s.size = 0 then (getF K.files s.data.toList).map (·.b) else none)
    rw [hp] at HF
    refine (remove_err s _ _ (by simpa using he) HF).mono ?_
    rintro e w' ⟨rfl, hb⟩
    exact .err he hb
  · have he : errF K.on s.size (getF K.files s.data.toList) = 0 := Decidable.not_not.1 he
    obtain ⟨h0, F, hF⟩ := errF_zero he
    have hon := errn_on h0
    have he2 := he
    rw [he2, if_pos h0, hF] at HF
    by_cases hk : K.armed = false ∨ 0 < K.left
    · refine (remove_done (b := F.b) s (fun W => Step w d K W (counted K)) (fun W => Step w d K W { counted K with files := restF K.files s.data.toList }) HF
        (fun W hW => ((h.below hW).count0 hon hl hk).mono fun e w' hp => ⟨hp.1, (Step.below h hW).trans hp.2⟩) (fun W hW => ?_)).mono ?_
      · have hm2 : (s.data.toList, F) ∈ (counted K).files := by rw [counted_files]; exact getF_mem hF
        obtain ⟨m, w2, e1, e2, e3⟩ := hW.at'.remAfter s hm2 hs
        rw [counted_files] at e3
        exact ⟨m, w2, (cell_at hW.at'.blk 0).trans (by rw [← e1]; rfl), e2, hW.trans e3⟩
      · rintro e w' ⟨rfl, hst⟩
        exact .done he hk hst
    · have ha : K.armed = true := by cases hx : K.armed with
        | true => rfl
        | false => exact absurd (.inl hx) hk
      refine (remove_falls (b := F.b) s HF (fun W hW => (h.below hW).count14 hon hl ha (fun hx => hk (.inr hx)))).mono ?_
      rintro e w' ⟨w1, n, K', rfl, hb, hc⟩
      exact .falls he ha (fun hx => hk (.inr hx)) hb hc

end Go.Proofs.YtaabepiddbnggaaGreat.P4

namespace Go.Proofs.YtaabepiddbnggaaGreat.P4
open Go Go.RowKit Go.Lib Go.Maps Go.ChangeMaps Go.MapKept Go.Proofs.YtaabepiddbnggaaGreat.P3 Go.Sort

def encS (n : List UInt8) : Value := .string ⟨n.toArray⟩
/-- the names that begin so -/
def namesP (p : ByteArray) (L : Files) : List (List UInt8) := (L.map (·.1)).filter (fun n => Lib.hasPrefix n p.data.toList)
def sortN (xs : List (List UInt8)) : List (List UInt8) := xs.mergeSort fun x y => decide (x ≤ y)
theorem sortN_length (xs : List (List UInt8)) : (sortN xs).length = xs.length := (List.mergeSort_perm _ _).length_eq
theorem names_perm {p : ByteArray} {L M : Files} (h : L.Perm M) : (namesP p L).Perm (namesP p M) := (h.map _).filter _
theorem names_cons (p : ByteArray) (n : List UInt8) (F : Fl) (L : Files) : namesP p ((n, F) :: L) = if Lib.hasPrefix n p.data.toList = true then n :: namesP p L else namesP p L := by
  unfold namesP
  rw [List.map_cons, List.filter_cons]
theorem names_le (p : ByteArray) (L : Files) : (namesP p L).length ≤ L.length := by
  have h := List.length_filter_le (fun n => Lib.hasPrefix n p.data.toList) (L.map (·.1))
  rw [List.length_map] at h
  exact h
theorem sort_names {w wr : World} {v : Value} {xs : List (List UInt8)} (hown : wr.ownsRow w.heap.size 9 1 v xs.length (xs.map encS)) (hB : Below w.heap.size w wr) (hl : xs.length ≤ 100) :
    Calls Tryz.prog 48 #[v] wr fun e w' => e = .returned (.tuple #[]) ∧ w'.ownsRow w.heap.size 9 1 v xs.length ((sortN xs).map encS) ∧ Below w.heap.size w w' := by
  by_cases hx : xs = []
  · subst hx
    obtain ⟨a, cap, rfl⟩ : ∃ a cap, v = .slice a 0 cap := by
      rcases hown.2 with ⟨rfl, _⟩ | ⟨g, cap, cur, rfl, _⟩
      · exact ⟨_, _, rfl⟩
      · exact ⟨_, _, rfl⟩
    refine (Any.slices_Sort_string_none Tryz.lays190 a cap wr).mono ?_
    rintro e w' ⟨rfl, rfl⟩
    rw [show sortN [] = [] by simp [sortN]]
    exact ⟨rfl, hown, hB⟩
  · rcases hown.2 with ⟨_, h0⟩ | ⟨g, cap, cur, rfl, hlo, hg, hcap, hmx, hcs, hct⟩
    · exact absurd (List.length_eq_zero_iff.1 h0) hx
    have hc : ∀ (j : Nat) (x : List UInt8), xs[j]? = some x → cur[j]? = some (encS x) := by
      intro j x hj
      have hjl := (List.getElem?_eq_some_iff.1 hj).1
      have h1 : (cur.toList.take (xs.length * 1))[j]? = (xs.map encS)[j]? := by rw [hct]
      rw [List.getElem?_take_of_lt (by omega), List.getElem?_map, hj, Array.getElem?_toList] at h1
      exact h1
    have hH : Holds encStr wr g 0 xs.toArray := by
      intro j hj
      have hj2 : j < xs.length := by simpa using hj
      rw [Nat.zero_add]
      refine ⟨?_, free_at hg j⟩
      rw [cell_at hg, hc j _ (List.getElem?_eq_getElem hj2), getElem!_pos xs.toArray j hj]
      simp [encS]
    refine (Tryz.slices_Sort_string g 0 cap xs wr hH (lt_of_block hg) (by omega)).mono ?_
    rintro e w' ⟨rfl, n, os, rfl⟩
    obtain ⟨ms, hms⟩ : ∃ ms, ms = sortN xs := ⟨_, rfl⟩
    have hml : ms.length = xs.length := by rw [hms]; exact sortN_length xs
    have ho : Only g wr (Go.Sort.grow (putRow encStr (Sort.ahead wr n) g 0 ms.toArray) os) := sortWorld_only encStr wr g 0 n ms.toArray os
    have h1 : (putRow encStr (Sort.ahead wr n) g 0 ms.toArray).heap[g]? = some (.cells (putCells encStr 0 ms.toArray cur) 9 (0, 0)) := by
      simp only [putRow, mapBlock, Array.getElem?_modify]
      rw [if_pos trivial]
      have h2 : (Sort.ahead wr n).heap[g]? = some (.cells cur 9 (0, 0)) := hg
      rw [h2]
      rfl
    have h2 := old_below h1 (grow_below _ os)
    change _ ∧ (Go.Sort.grow (putRow encStr (Sort.ahead wr n) g 0 (sortN xs).toArray) os).ownsRow _ _ _ _ _ _ ∧ Below _ _ (Go.Sort.grow (putRow encStr (Sort.ahead wr n) g 0 (sortN xs).toArray) os)
    rw [← hms]
    refine ⟨rfl, ⟨by rw [List.length_map, hml, Nat.mul_one], .inr ⟨g, cap, _, rfl, hlo, h2, hcap, hmx, by unfold putCells; rw [Array.size_mapIdx]; exact hcs, ?_⟩⟩, Only.new hB ho hlo⟩
    apply List.ext_getElem?
    intro j
    by_cases hj : j < xs.length
    · have hjm : j < ms.toArray.size := by rw [List.size_toArray]; omega
      rw [List.getElem?_take_of_lt (by omega), Array.getElem?_toList]
      unfold putCells
      rw [Array.getElem?_mapIdx, Array.getElem?_eq_getElem (by omega), Option.map_some, if_pos ⟨Nat.zero_le _, by omega⟩, Nat.sub_zero, getElem!_pos ms.toArray j hjm, List.getElem?_map, List.getElem?_eq_getElem (by omega)]
      simp [encS]
    · rw [List.getElem?_eq_none (by rw [List.length_take]; omega), List.getElem?_eq_none (by rw [List.length_map]; omega)]

theorem infoSt : (Tryz.prog.info? 9).map (fun i => (i.zero, i.size, i.bytes)) = some (some (.string ⟨#[]⟩), 1, 16) := by kernel_rfl
theorem rngO_grown {w w' : World} {m : Option Nat} {r : Nat} {L : Dir} {lf : List UInt8 → Bool} {cnt lo n : Nat} {e : TypeId} {v : Value} {xs : List Value} (h : RngO w m r L lf cnt) (hr : w.ownsRow lo e 1 v n xs) (hg : w.grownBy w' v.ownBlock) : RngO w' m r L lf cnt := by
  rcases h with ⟨h1, h2, h3⟩ | ⟨b, rfl, h⟩
  · refine .inl ⟨h1, ?_, h3⟩
    have hne : v.ownBlock ≠ some r := by
      intro hk
      rcases hr.2 with ⟨rfl, _⟩ | ⟨g, cap, cur, rfl, _, h6, _⟩
      · cases hk
      · obtain rfl : g = r := by simpa [Value.ownBlock] using hk
        rw [h2] at h6; cases h6
    rw [hg.block r (lt_of_block h2) (fun e => hne e.symm)]
    exact h2
  · exact .inr ⟨b, rfl, rng_grown h hr hg⟩
theorem rngO_ne {w : World} {m : Option Nat} {r : Nat} {L : Dir} {lf : List UInt8 → Bool} {cnt lo n : Nat} {e : TypeId} {v : Value} {xs : List Value} (h : RngO w m r L lf cnt) (hr : w.ownsRow lo e 1 v n xs) : ∀ k, v.ownBlock = some k → k ≠ r := by
  rcases h with ⟨h1, h2, h3⟩ | ⟨b, rfl, h⟩
  · rintro k hk rfl
    rcases hr.2 with ⟨rfl, _⟩ | ⟨g, cap, cur, rfl, _, h6, _⟩
    · cases hk
    · obtain rfl : g = k := by simpa [Value.ownBlock] using hk
      rw [h2] at h6; cases h6
  · exact fun k hk => (rng_ne h hr k hk).2
def ListPost (w : World) (L : Files) (p : ByteArray) (e : Ending) (w' : World) : Prop :=
  ∃ v xs, e = .returned v ∧ xs.Perm (namesP p L) ∧ w'.ownsRow w.heap.size 9 1 v xs.length ((sortN xs).map encS) ∧ Below w.heap.size w w'
theorem list_off (w : World) (d : Nat) (p : ByteArray) (c1 : w.cell? ⟨d, 1, none⟩ = some (.bool false)) :
    Calls Tryz.prog 11 #[.pointer (some ⟨d, 0, none⟩), .string p] w fun e w' => e = .returned (.slice none 0 0) ∧ w = w' := by
  have H := Lib.hid (on_any w d false c1)
  go_enter Tryz.func11, Tryz.ntmps11
  go_wp2_with (go_at_call 23; (with_reducible refine H.out.mono ?_); rintro e w' ⟨rfl, rfl⟩)
  go_ret
  exact ⟨rfl, rfl⟩
set_option maxRecDepth 100000 in
set_option maxHeartbeats 2000000 in
theorem list_any (w : World) (d : Nat) (m : Option Nat) (L : Files) (p : ByteArray) (c0 : w.cell? ⟨d, 0, none⟩ = some (.map m)) (c1 : w.cell? ⟨d, 1, none⟩ = some (.bool true)) (hm : MapAt w m (dir L)) (hn : (L.map (·.1)).Nodup) (hl : L.length ≤ 60) :
    Calls Tryz.prog 11 #[.pointer (some ⟨d, 0, none⟩), .string p] w (ListPost w L p) := by
  obtain ⟨i0, hi, hz0, hz1, hz2⟩ := info_parts infoSt
  have HM := Lib.hid hm
  have HN := Lib.hid hn
  have HLn := Lib.hid hl
  have HOn := Lib.hid (on_any w d true c1)
  have HPre : Hid (∀ s w, Calls Tryz.prog 47 #[.string s, .string p] w fun e w' => e = .returned (.bool (Lib.hasPrefix s.data.toList p.data.toList)) ∧ w = w') := fun s w => (Tryz.strings_HasPrefix s p w).mono fun e w' ⟨a, b⟩ => ⟨a, b.symm⟩
  clear hm hn hl c1
  go_enter Tryz.func11, Tryz.ntmps11
  go_wp2_with (first
    | (go_at_call 23; (with_reducible refine HOn.out.mono ?_); rintro e w' ⟨rfl, rfl⟩)
    | (at_range; refine wpList_range_o rfl _ rfl m (dir L) rfl HM.out ?_; intro w0 hr0 hb0 hs0; clear hs0))
  go_frame
  have HR0 := Lib.hid hr0
  have HB0 := Lib.hid hb0
  have hdl : (dir L).length = L.length := by unfold dir; rw [List.length_map]
  rw [hdl] at HR0
  clear hr0 hb0 c0 HOn hdl
  go_loopg [5, 6] (L.length) (fun q vl vn wr => ∃ (lf : List UInt8 → Bool) (cnt : Nat) (xs : List (List UInt8)), cnt ≤ q ∧ Hid (RngO wr m w.heap.size (dir L) lf cnt) ∧ Hid (xs.Perm (namesP p (doneL L lf))) ∧ Hid (wr.ownsRow w.heap.size 9 1 vl xs.length (xs.map encS)) ∧ Hid (Below w.heap.size w wr))
  case atStart => exact ⟨_, _, [], Nat.le_refl _, HR0.out, by rw [done_none HN.out]; exact List.Perm.refl _, World.ownsRow_nil _ _ _ _, HB0.out⟩
  case round =>
    clear HR0 HB0
    obtain ⟨lf, cnt, xs, hq, hR, hP, hO, hB⟩ := hrel
    have hxl : xs.length ≤ 60 := by
      have h1 := hP.out.length_eq
      have h2 := names_le p (doneL L lf)
      have h3 : (doneL L lf).length ≤ L.length := List.length_filter_le _ _
      have h4 := HLn.out
      omega
    go_wp2_with (at_next; refine wpList_next_o rfl _ rfl m w.heap.size (dir L) lf cnt rfl hR.out ?_ ?_)
    · intro hno
      have hp : xs.Perm (namesP p L) := by have := hP.out; rw [done_all hno] at this; exact this
      have HS := Lib.hid (sort_names hO.out hB.out (by omega))
      have HP2 := Lib.hid hp
      clear hp hno hB hR hP hO
      go_wp2_with (go_at_call 48; (with_reducible refine HS.out.mono ?_); rintro e w2 ⟨rfl, hys⟩; have HY := Lib.hid hys; clear hys)
      go_ret
      exact ⟨_, xs, rfl, HP2.out, HY.out.1, HY.out.2⟩
    · intro s fb w1 cnt1 hs hm1 hlf hR1 hlt ho1 hs1 hen
      obtain ⟨F, hFm, rfl⟩ := dir_mem hm1
      have hB1 : Below w.heap.size w w1 := Only.new hB.out ho1 (Nat.le_refl _)
      have hst := names_perm (p := p) (done_step hlf HN.out hFm)
      rw [names_cons] at hst
      have hO1 : w1.ownsRow w.heap.size 9 1 u5 xs.length (xs.map encS) := owns_only hO.out ho1 (rngO_ne hR.out hO.out)
      have HST := Lib.hid hst
      have HR1 := Lib.hid hR1
      have HB1 := Lib.hid hB1
      have HO1 := Lib.hid hO1
      have HPr := Lib.hid (HPre.out s)
      clear hm1 hlf hR1 hs1 hFm hB1 hst hB hR hO hO1
      obtain ⟨B, hBB⟩ : ∃ B, B = Lib.hasPrefix s.data.toList p.data.toList := ⟨_, rfl⟩
      rw [← hBB] at HPr HST
      clear hBB
      cases B with
      | false =>
        have HP2 : Hid (xs.Perm (namesP p (doneL L (fun k => lf k && !(k == s.data.toList))))) := by
          have h1 := HST.out
          rw [if_neg (by decide)] at h1
          exact hP.out.trans h1.symm
        clear HST hP
        go_wp2_with (go_at_call 47; (with_reducible refine (HPr.out _).mono ?_); rintro e w2 ⟨rfl, rfl⟩)
        go_roundg (cnt1)
        case measure => omega
        case rel => exact ⟨_, _, xs, Nat.le_refl _, HR1.out, HP2.out, HO1.out, HB1.out⟩
      | true =>
        have HP2 : Hid ((xs ++ [s.data.toList]).Perm (namesP p (doneL L (fun k => lf k && !(k == s.data.toList))))) := by
          have h1 := HST.out
          rw [if_pos rfl] at h1
          exact (List.perm_append_singleton _ _).trans ((hP.out.cons _).trans h1.symm)
        clear HST hP
        have es : encS s.data.toList = .string s := by simp [encS]
        go_wp2_with (first
          | (go_at_call 47; (with_reducible refine (HPr.out _).mono ?_); rintro e w2 ⟨rfl, rfl⟩)
          | (at_builtin; refine wpList_append_own _ rfl _ _ 51 rfl w.heap.size 9 i0 (.string ⟨#[]⟩) 1 16 Tryz.underlying51 hi hz0 hz1 hz2 rfl (by decide) _ xs.length (xs.map encS) rfl (HO1.out.alloc _) ⟨w1.heap.size, 0, none⟩ 1 1 [.string s] rfl rfl ?c1 ?c2 ?c3 ?c4 ?c5 ?_))
        case c1 => exact World.news_of_block (heap_alloc_new w1 _)
        case c2 => intro u hu; simp at hu; subst hu; rfl
        case c3 => unfold maxLen; omega
        case c4 => omega
        case c5 => have := HB1.out.size; simp; omega
        intro v' w4 hown' hgrow _
        have hB3 : Below w.heap.size w (w1.alloc (.cells #[.string s] 9)) := grow HB1.out _
        have hO3 := World.ownsRow.alloc HO1.out (.cells #[.string s] 9)
        have HB4 : Hid (Below w.heap.size w w4) := below_grown hB3 hO3 hgrow
        have HR4 : Hid (RngO w4 m w.heap.size (dir L) (fun k => lf k && !(k == s.data.toList)) cnt1) := rngO_grown (HR1.out.fr (S := fun _ => False) (.of (below_new _ _)) (fun _ _ => id) id) hO3 hgrow
        have HO4 : Hid (w4.ownsRow w.heap.size 9 1 v' (xs ++ [s.data.toList]).length ((xs ++ [s.data.toList]).map encS)) := by
          rw [List.length_append, List.map_append, List.map_cons, List.map_nil, es]
          exact hown'
        clear hown' hgrow hB3 hO3 HO1 HB1 HR1
        go_wp2
        go_roundg (cnt1)
        case measure => omega
        case rel => exact ⟨_, _, xs ++ [s.data.toList], Nat.le_refl _, HR4.out, HP2.out, HO4.out, HB4.out⟩
/-- List of a disk -/
theorem DiskAt.list {w : World} {d : Nat} {K : Dk} (h : DiskAt w d K) (hon : K.on = true) (p : ByteArray) :
    Calls Tryz.prog 11 #[.pointer (some ⟨d, 0, none⟩), .string p] w (ListPost w K.files p) :=
  list_any w d K.m K.files p (cell_at h.blk 0) ((cell_at h.blk 1).trans (by rw [← hon]; rfl)) h.map h.files.names h.files.few

end Go.Proofs.YtaabepiddbnggaaGreat.P4

namespace Go.Proofs.YtaabepiddbnggaaGreat.P4
open Go Go.RowKit Go.Lib Go.Maps Go.ChangeMaps Go.MapKept Go.Proofs.YtaabepiddbnggaaGreat.P3

/-- a write over a sector that is there, of a file of which only that is known -/
theorem FileAt.over {w : World} {F : Fl} (h : FileAt w F) (t i : Nat) (d : ByteArray) (hil : i < F.secs.length) (htp : ∀ s, F.secs[i]? = some s → s.top = lastAt F.ws i) (hroom : F.secs.length ≤ 4001) (hf : F.ws.length < 10000) :
    Calls Tryz.prog 90 #[.pointer (some ⟨F.b, 0, none⟩), .int .i64 t, .int .i64 i, .string d] w fun e w' => e = .returned (.tuple #[]) ∧ ∃ sl b, Wrote w w' F sl b t i d := by
  have hbl := lt_of_block h.blk
  obtain ⟨g, cap, cur, hv, hg, hcap, hmx, hcs, hxs⟩ := owns_some h.row (by omega)
  have hr := h.row
  rw [hv] at hr
  have hgl : g < w.heap.size := lt_of_block hg
  have hbg : F.b ≠ g := block_ne h.blk hg (by decide)
  obtain ⟨s, hs⟩ : ∃ s, F.secs[i]? = some s := ⟨_, List.getElem?_eq_getElem hil⟩
  obtain ⟨s0, s1, s2⟩ := secs_at F.secs i s hs
  obtain ⟨p, hp⟩ := ptr_shape s.top
  have htop := htp s hs
  have hwn : ∀ x ∈ F.ws, g ≠ x.b := by
    intro x hx e
    obtain ⟨_, _, hx'⟩ := seg_mem h.seg x hx
    exact block_ne hg hx' (by decide) e
  refine (write_old0 w F.b g F.secs.length cap i t d s.now p p hil ((cell_at h.blk 0).trans (by rw [← hv]; rfl)) (owns_cell hr (by rw [s2, hp]))
    (fun w2 => w2.heap[F.b]? = some (.cells (#[F.sl, .int .i64 F.ns, .bool F.stays, ptr (hd (F.ws ++ [⟨w.heap.size, t, i, d, 0, s.top⟩]) none), ptr (some w.heap.size), .int .i64 ((F.ws.length : Int) + 1)]) 121 (0, 0)) ∧
      Seg w2 none (F.ws ++ [⟨w.heap.size, t, i, d, 0, s.top⟩]) none ∧ Fr (fun k => k = F.b ∨ ∃ y ∈ F.ws ++ [⟨w.heap.size, t, i, d, 0, s.top⟩], y.b = k) w w2) ?_ (fun w2 hq => ?_)).mono ?_
  · have q4 := old_alloc h.blk (.cells #[.int .i64 t, .int .i64 i, .string d, .int .i64 0, .pointer none, .pointer none, .pointer p] 112)
    have hx : WrAt (w.alloc (.cells #[.int .i64 t, .int .i64 i, .string d, .int .i64 0, .pointer none, .pointer none, .pointer p] 112)) ⟨w.heap.size, t, i, d, 0, s.top⟩ none none := by
      unfold WrAt Wr.cells
      rw [hp]
      exact new_at w _ _
    have hs : Seg (w.alloc (.cells #[.int .i64 t, .int .i64 i, .string d, .int .i64 0, .pointer none, .pointer none, .pointer p] 112)) none F.ws none := seg_keep h.seg (fun x hx => Below.heap_alloc _ _ _ (seg_lt h.seg x hx))
    refine (add_any _ q4 rfl rfl rfl rfl hs hx ?_ (by omega)).mono ?_
    · rw [List.map_append, List.nodup_append]
      refine ⟨h.nodup, by simp, fun a ha c hc => ?_⟩
      obtain ⟨x, hx1, rfl⟩ := List.mem_map.1 ha
      have := seg_lt h.seg x hx1
      simp at hc
      omega
    · rintro e w2 ⟨rfl, hb2, hs2, hf2⟩
      exact ⟨rfl, hb2, hs2, (Fr.of (below_new _ _)).trans hf2⟩
  · obtain ⟨_, _, hf⟩ := hq
    have hns : ¬ (g = F.b ∨ ∃ y ∈ F.ws ++ [⟨w.heap.size, t, i, d, 0, s.top⟩], y.b = g) := by
      rintro (e | ⟨y, hy, e⟩)
      · exact hbg e.symm
      · rcases List.mem_append.1 hy with hy | hy
        · exact hwn y hy e.symm
        · obtain rfl := List.mem_singleton.1 hy
          simp at e
          omega
    have hr2 := owns_fr hr hf (fun g' e => by obtain rfl : g = g' := by simpa [Value.ownBlock] using e
                                              exact hns)
    exact ⟨owns_cell hr2 s0, owns_cell hr2 (by rw [s2, hp]), owns_free hr2 _, owns_free hr2 _⟩
  · rintro e w' ⟨rfl, w2, ⟨hb2, hs2, hf2⟩, rfl⟩
    have hns : ¬ (g = F.b ∨ ∃ y ∈ F.ws ++ [⟨w.heap.size, t, i, d, 0, s.top⟩], y.b = g) := by
      rintro (e | ⟨y, hy, e⟩)
      · exact hbg e.symm
      · rcases List.mem_append.1 hy with hy | hy
        · exact hwn y hy e.symm
        · obtain rfl := List.mem_singleton.1 hy
          simp at e
          omega
    have hr2 := owns_fr hr hf2 (fun g' e => by obtain rfl : g = g' := by simpa [Value.ownBlock] using e
                                               exact hns)
    have hr3 := owns_set (owns_set hr2 (i * 3) (.string d)) (i * 3 + 2) (ptr (some w.heap.size))
    rw [← secs_now_top F.secs i s hs d (some w.heap.size), ← hv] at hr3
    refine ⟨rfl, F.sl, w.heap.size, ?_, Nat.le_refl _, fun g' e => .inl e, ?_⟩
    · have hF : F.write F.sl w.heap.size t i d = { F with secs := F.secs.modify i (fun s => ⟨d, s.safe, some w.heap.size⟩), ws := F.ws ++ [⟨w.heap.size, t, i, d, 0, s.top⟩] } := by
        unfold Fl.write
        rw [if_neg (by omega), htop]
      rw [hF]
      refine ⟨?_, ?_, ?_, ?_⟩
      · rw [Below.heap_setCell _ _ _ _ hbg, Below.heap_setCell _ _ _ _ hbg, hb2]
        unfold Fl.cells
        rw [lst_snoc, List.length_append]
        rfl
      · show World.ownsRow _ _ _ _ _ (F.secs.modify i _).length (secsCells (F.secs.modify i _))
        rw [List.length_modify]
        exact hr3
      · refine seg_keep hs2 (fun x hx => ?_)
        have hxg : x.b ≠ g := fun e => hns (.inr ⟨x, hx, e⟩)
        rw [Below.heap_setCell _ _ _ _ hxg, Below.heap_setCell _ _ _ _ hxg]
      · show ((F.ws ++ [_] : List Wr).map (·.b)).Nodup
        rw [List.map_append, List.nodup_append]
        refine ⟨h.nodup, by simp, fun a ha c hc => ?_⟩
        obtain ⟨x, hx1, rfl⟩ := List.mem_map.1 ha
        have := seg_lt h.seg x hx1
        simp at hc
        omega
    · have f2 : Fr (fun k => F.foot k ∨ w.heap.size ≤ k) w w2 := hf2.mono (fun k _ hk => by
        rcases hk with rfl | ⟨y, hy, rfl⟩
        · exact .inl (.inl rfl)
        · rcases List.mem_append.1 hy with hy | hy
          · exact .inl (.inr (.inr ⟨y, hy, rfl⟩))
          · obtain rfl := List.mem_singleton.1 hy
            exact .inr (Nat.le_refl _))
      have hg' : F.foot g ∨ w.heap.size ≤ g := .inl (.inr (.inl (by rw [hv]; rfl)))
      exact ((f2.trans (.only ((Only.refl g _).setCell _ _) hg')).trans (.only ((Only.refl g _).setCell _ _) hg')).mono (fun k hk h' => h'.elim id (fun e => by omega))

/-- a file in which the first writes of F, those of l, were done anew -/
structure Tw (F : Fl) (l : List Wr) (T : Fl) : Prop where
  ns : T.ns = F.ns
  stays : T.stays = F.stays
  ws : T.ws.map Wr.abs = l.map Wr.abs
  still : ∀ x ∈ T.ws, x.kept = 0
  len : T.secs.length = F.secs.length
  tops : ∀ i s, T.secs[i]? = some s → s.top = lastAt T.ws i
  unders : UnderOk T.ws
  safe : T.secs.map (·.safe) = F.secs.map (·.safe)
  now : T.secs.map (·.now) = l.foldl (fun n x => n.set x.pos x.data) (F.secs.map (·.now))
theorem Tw.step {F T : Fl} {l : List Wr} {x : Wr} (h : Tw F l T) (hp : x.pos < F.secs.length) (sl : Value) (b : Nat) : Tw F (l ++ [x]) (T.write sl b x.turn x.pos x.data) := by
  have hl : x.pos < T.secs.length := by rw [h.len]; exact hp
  have hsec : (T.write sl b x.turn x.pos x.data).secs = T.secs.modify x.pos (fun s => ⟨x.data, s.safe, some b⟩) := by
    unfold Fl.write
    simp only
    rw [if_neg (by omega)]
  refine ⟨h.ns, h.stays, ?_, ?_, ?_, ?_, h.unders.snoc _ rfl, ?_, ?_⟩
  · show (T.ws ++ [_]).map Wr.abs = _
    rw [List.map_append, List.map_append, h.ws]
    rfl
  · intro y hy
    rcases List.mem_append.1 hy with hy | hy
    · exact h.still y hy
    · obtain rfl := List.mem_singleton.1 hy
      rfl
  · rw [hsec, List.length_modify, h.len]
  · intro i s hs
    rw [hsec, List.getElem?_modify] at hs
    show s.top = lastAt (T.ws ++ [_]) i
    rw [lastAt_snoc]
    by_cases e : x.pos = i
    · subst e
      simp only [if_pos] at hs ⊢
      obtain ⟨s0, _, rfl⟩ := Option.map_eq_some_iff.1 hs
      rfl
    · simp only [if_neg e] at hs ⊢
      exact h.tops i s (by simpa using hs)
  · rw [hsec, ← h.safe]
    apply List.ext_getElem?
    intro i
    rw [List.getElem?_map, List.getElem?_map, List.getElem?_modify]
    by_cases e : x.pos = i
    · subst e; cases T.secs[x.pos]? <;> simp
    · simp [e]
  · rw [hsec, List.foldl_append, ← h.now]
    show _ = (T.secs.map (·.now)).set x.pos x.data
    apply List.ext_getElem?
    intro i
    rw [List.getElem?_map, List.getElem?_modify, List.getElem?_set]
    by_cases e : x.pos = i
    · subst e; simp [hl]
    · simp [e]
theorem foldl_set_other {l : List Wr} {i : Nat} (h : ∀ x ∈ l, x.pos ≠ i) : ∀ n : List ByteArray, (l.foldl (fun n x => n.set x.pos x.data) n)[i]? = n[i]? := by
  induction l with
  | nil => exact fun _ => rfl
  | cons x r ih =>
    intro n
    rw [List.foldl_cons, ih (fun y hy => h y (List.mem_cons_of_mem _ hy)), List.getElem?_set, if_neg (h x List.mem_cons_self)]
theorem foldl_set_all (P : ByteArray → Prop) {l : List Wr} (h : ∀ x ∈ l, P x.data) : ∀ n : List ByteArray, (∀ s ∈ n, P s) → ∀ s ∈ l.foldl (fun n x => n.set x.pos x.data) n, P s := by
  induction l with
  | nil => exact fun _ hn => hn
  | cons x r ih =>
    intro n hn
    rw [List.foldl_cons]
    refine ih (fun y hy => h y (List.mem_cons_of_mem _ hy)) _ (fun s hs => ?_)
    rcases List.mem_or_eq_of_mem_set hs with hs | rfl
    · exact hn s hs
    · exact h x List.mem_cons_self
theorem map_get {α β : Type} {f : α → β} {l m : List α} (h : l.map f = m.map f) {i : Nat} {a : α} (ha : l[i]? = some a) : ∃ b, m[i]? = some b ∧ f a = f b := by
  have h1 : (l.map f)[i]? = (m.map f)[i]? := by rw [h]
  rw [List.getElem?_map, List.getElem?_map, ha] at h1
  cases hm : m[i]? with
  | none => rw [hm] at h1; cases h1
  | some b => rw [hm] at h1; exact ⟨b, rfl, by simpa using h1⟩
theorem Tw.ok {F T : Fl} (h : Tw F F.ws T) (ok : FileOk F) : FileOk T := by
  have hmem : ∀ x ∈ T.ws, ∃ y ∈ F.ws, y.turn = x.turn ∧ y.pos = x.pos ∧ y.data = x.data := by
    intro x hx
    have h1 : x.abs ∈ F.ws.map Wr.abs := by rw [← h.ws]; exact List.mem_map_of_mem hx
    obtain ⟨y, hy, e⟩ := List.mem_map.1 h1
    unfold Wr.abs at e
    simp only [Prod.mk.injEq] at e
    exact ⟨y, hy, e⟩
  have hmem2 : ∀ y ∈ F.ws, ∃ x ∈ T.ws, x.pos = y.pos := by
    intro y hy
    have h1 : y.abs ∈ T.ws.map Wr.abs := by rw [h.ws]; exact List.mem_map_of_mem hy
    obtain ⟨x, hx, e⟩ := List.mem_map.1 h1
    unfold Wr.abs at e
    simp only [Prod.mk.injEq] at e
    exact ⟨x, hx, e.2.1⟩
  refine ⟨h.tops, h.unders, ?_, ?_, ?_, ?_, ?_, ?_, ?_, ?_, ?_, ?_⟩
  · intro x hx
    obtain ⟨y, hy, _, e, _⟩ := hmem x hx
    rw [h.len, ← e]
    exact ok.pos y hy
  · intro x hx
    obtain ⟨y, hy, _, _, e⟩ := hmem x hx
    rw [← e]
    exact ok.data y hy
  · intro s hs
    have h1 : s.now ∈ T.secs.map (·.now) := List.mem_map_of_mem hs
    rw [h.now] at h1
    refine foldl_set_all (fun d => d.size = 256) ok.data _ (fun d hd => ?_) _ h1
    obtain ⟨s0, h2, rfl⟩ := List.mem_map.1 hd
    exact ok.now s0 h2
  · intro i s hs
    obtain ⟨s0, h0, e⟩ := map_get h.safe hs
    rw [h.ns, e]
    exact ok.safe i s0 h0
  · intro i s hs hno
    obtain ⟨s0, h0, e⟩ := map_get h.safe hs
    have hno2 : ∀ y ∈ F.ws, y.pos ≠ i := fun y hy e2 => by
      obtain ⟨x, hx, e3⟩ := hmem2 y hy
      exact hno x hx (e3.trans e2)
    obtain ⟨c1, c2⟩ := ok.clean i s0 h0 hno2
    refine ⟨by rw [h.ns]; exact c1, ?_⟩
    rw [e, c2]
    have h1 : (T.secs.map (·.now))[i]? = (F.secs.map (·.now))[i]? := by rw [h.now]; exact foldl_set_other hno2 _
    rw [List.getElem?_map, List.getElem?_map, hs, h0] at h1
    simpa using h1.symm
  · rw [h.ns, h.len]; exact ok.nsle
  · rw [h.ns, h.stays]; exact ok.made
  · rw [h.len]; exact ok.room
  · have h1 : (T.ws.map Wr.abs).Pairwise (fun x y => x.1 < y.1) := by
      rw [h.ws, List.pairwise_map]
      exact ok.turns
    have h2 := List.pairwise_map.1 h1
    exact h2
  · have h1 : (T.ws.map Wr.abs).length = (F.ws.map Wr.abs).length := by rw [h.ws]
    rw [List.length_map, List.length_map] at h1
    rw [h1]
    exact ok.few
/-- a file as the document has it, its writes done anew -/
def AF.redo (A : AF) : AF := { A with now := A.ws.foldl (fun n x => n.set x.2.1 x.2.2) A.now }
theorem Tw.abs {F T : Fl} (h : Tw F F.ws T) : T.abs = F.abs.redo := by
  have e1 : (T.secs.take T.ns).map (·.safe) = (F.secs.take F.ns).map (·.safe) := by rw [List.map_take, List.map_take, h.safe, h.ns]
  unfold Fl.abs AF.redo
  simp only [AF.mk.injEq]
  refine ⟨?_, e1, h.stays, h.ws⟩
  rw [h.now, List.foldl_map]
  rfl

theorem secs_one (l : List Sec) : ∀ u ∈ secsCells l, u.oneCell' = true := by
  intro u hu
  unfold secsCells at hu
  obtain ⟨s, _, h⟩ := List.mem_flatMap.1 hu
  unfold Sec.cells at h
  rcases s with ⟨a, b, t⟩
  cases t <;> simp [ptr] at h <;> rcases h with rfl | rfl | rfl <;> rfl
theorem clone_secs {w : World} {F : Fl} (h : FileAt w F) (hroom : F.secs.length ≤ 4001) :
    Calls Tryz.prog 96 #[F.sl] w fun e w' => ∃ v', e = .returned v' ∧ w'.ownsRow w.heap.size 116 3 v' F.secs.length (secsCells F.secs) ∧ Below w.heap.size w w' := by
  obtain ⟨i0, hi, hz0, hz1, hz2⟩ := info_parts infoSec
  rcases h.row.2 with ⟨e, h0⟩ | ⟨g, cap, cur, e, _, h2, h3, h4, h5, h6⟩
  · rw [e]
    refine (AnyE.slices_Clone_nil Tryz.cloneS 0 0 w).mono ?_
    rintro e w' ⟨rfl, rfl⟩
    have hn : F.secs = [] := List.eq_nil_of_length_eq_zero h0
    rw [hn]
    exact ⟨_, rfl, World.ownsRow_nil _ _ _ _, Below.refl _ _⟩
  · rw [e]
    refine (AnyE.slices_Clone Tryz.cloneS i0 _ 3 40 hi hz0 hz1 hz2 rfl (by decide) (fun w => Tryz.sizeOf116 w) g 0 F.secs.length cap (secsCells F.secs) w (secs_length _) (by unfold maxLen; omega) (by omega) (fun j u hj => ?_) (secs_one _)).mono ?_
    · rw [Nat.zero_add, cell_at h2]
      have h7 : (cur.toList.take (F.secs.length * 3))[j]? = some u := by rw [h6]; exact hj
      have hjl : j < F.secs.length * 3 := by rw [← secs_length]; exact (List.getElem?_eq_some_iff.1 hj).1
      rw [List.getElem?_take_of_lt hjl, Array.getElem?_toList] at h7
      exact h7
    · rintro e w' ⟨v', rfl, h1, _, h2⟩
      exact ⟨v', rfl, h1, h2⟩

end Go.Proofs.YtaabepiddbnggaaGreat.P4

namespace Go.Proofs.YtaabepiddbnggaaGreat.P4
open Go Go.RowKit Go.Lib Go.Maps Go.ChangeMaps Go.MapKept Go.Proofs.YtaabepiddbnggaaGreat.P3

theorem fr_new {S : Nat → Prop} {a w w' : World} (h : Below a.heap.size a w) (hf : Fr S w w') (hn : ∀ k, S k → a.heap.size ≤ k) : Below a.heap.size a w' :=
  ⟨hf.os.trans h.os, hf.tape.trans h.tape, hf.output.trans h.output, Nat.le_trans h.size hf.size, fun k hk => (hf.block k (Nat.lt_of_lt_of_le hk h.size) (fun hs => by have := hn k hs; omega)).trans (h.block k hk)⟩
theorem owns_le {w : World} {base base' e z n : Nat} {v : Value} {xs : List Value} (h : w.ownsRow base e z v n xs) (hb : base' ≤ base) : w.ownsRow base' e z v n xs := by
  refine ⟨h.1, ?_⟩
  rcases h.2 with h2 | ⟨g, cap, cur, rfl, h1, h2⟩
  · exact .inl h2
  · exact .inr ⟨g, cap, cur, rfl, Nat.le_trans hb h1, h2⟩
def clrS (s : Sec) : Sec := ⟨s.now, s.safe, none⟩
def clrTo (secs : List Sec) : Nat → List Sec
  | 0 => secs
  | i + 1 => (clrTo secs i).modify i clrS
theorem clr_length (secs : List Sec) : ∀ i, (clrTo secs i).length = secs.length
  | 0 => rfl
  | i + 1 => by rw [clrTo, List.length_modify, clr_length secs i]
theorem clr_at (secs : List Sec) (k : Nat) : ∀ i, (clrTo secs i)[k]? = if k < i then secs[k]?.map clrS else secs[k]?
  | 0 => rfl
  | i + 1 => by
    rw [clrTo, List.getElem?_modify, clr_at secs k i]
    by_cases e : i = k
    · subst e
      simp
    · by_cases h : k < i
      · simp [e, h, show k < i + 1 by omega]
      · simp [e, h, show ¬ k < i + 1 by omega]
theorem clr_all (secs : List Sec) : clrTo secs secs.length = secs.map clrS := by
  apply List.ext_getElem?
  intro k
  rw [clr_at, List.getElem?_map]
  by_cases h : k < secs.length
  · rw [if_pos h]
  · rw [if_neg h, List.getElem?_eq_none (by omega)]; rfl
theorem secs_top (l : List Sec) (i : Nat) (s : Sec) (h : l[i]? = some s) : secsCells (l.modify i clrS) = (secsCells l).set (i * 3 + 2) (.pointer none) := by
  obtain ⟨h0, h1, _⟩ := secs_at l i s h
  rw [modify_set _ l i s h, secs_set l i s h]
  show (((secsCells l).set (i * 3) (.string s.now)).set (i * 3 + 1) (.string s.safe)).set (i * 3 + 2) (.pointer none) = _
  rw [set_same (secsCells l) (i * 3) (.string s.now) h0, set_same (secsCells l) (i * 3 + 1) (.string s.safe) h1]

/-- the twin on the way: its sectors cloned, i of them without their writes -/
structure Tw0 (w : World) (F : Fl) (b : Nat) (sl : Value) (i : Nat) (wr : World) : Prop where
  at' : FileAt wr ⟨b, sl, clrTo F.secs i, F.ns, F.stays, []⟩
  new : w.heap.size ≤ b ∧ ∀ g, sl.ownBlock = some g → w.heap.size ≤ g
  below : Below w.heap.size w wr
/-- .. and the writes l done -/
def TwSt (w : World) (F : Fl) (b : Nat) (l : List Wr) (wr : World) : Prop :=
  ∃ T, T.b = b ∧ FileAt wr T ∧ Tw F l T ∧ (∀ k, T.foot k → w.heap.size ≤ k) ∧ Below w.heap.size w wr
theorem tw0_made {w w2 : World} {F : Fl} {v : Value} (h : w2.ownsRow w.heap.size 116 3 v F.secs.length (secsCells F.secs)) (hb : Below w.heap.size w w2) :
    Tw0 w F w2.heap.size v 0 (w2.alloc (.cells #[v, .int .i64 F.ns, .bool F.stays, .pointer none, .pointer none, .int .i64 0] 121)) := by
  have hs := hb.size
  refine ⟨⟨new_at _ _ _, ?_, trivial, List.nodup_nil⟩, ⟨hs, fun g hg => (h.lt g hg).1⟩, grow hb _⟩
  have h2 := World.ownsRow.alloc h (.cells #[v, .int .i64 F.ns, .bool F.stays, .pointer none, .pointer none, .int .i64 0] 121)
  exact owns_zero h2
theorem Tw0.clr {w wr : World} {F : Fl} {b g cap i : Nat} (h : Tw0 w F b (.slice (some ⟨g, 0, none⟩) F.secs.length cap) i wr) (hi : i < F.secs.length) :
    Tw0 w F b (.slice (some ⟨g, 0, none⟩) F.secs.length cap) (i + 1) (wr.setCell ⟨g, i * 3 + 2, none⟩ (.pointer none)) := by
  have hl := clr_length F.secs i
  obtain ⟨s, hs⟩ : ∃ s, (clrTo F.secs i)[i]? = some s := ⟨_, List.getElem?_eq_getElem (by rw [hl]; exact hi)⟩
  have hr : wr.ownsRow 0 116 3 (.slice (some ⟨g, 0, none⟩) F.secs.length cap) (clrTo F.secs i).length (secsCells (clrTo F.secs i)) := h.at'.row
  rw [hl] at hr
  have hbg : b ≠ g := owns_ne hr h.at'.blk (by decide)
  have hr2 := owns_set hr (i * 3 + 2) (.pointer none)
  rw [← secs_top _ i s hs] at hr2
  refine ⟨⟨?_, ?_, trivial, List.nodup_nil⟩, h.new, ?_⟩
  · rw [Below.heap_setCell _ _ _ _ hbg]; exact h.at'.blk
  · show World.ownsRow _ _ _ _ _ (clrTo F.secs (i + 1)).length (secsCells (clrTo F.secs (i + 1)))
    rw [clr_length]
    exact hr2
  · exact Only.new h.below ((Only.refl g wr).setCell _ _) (h.new.2 g rfl)
theorem Tw0.start {w wr : World} {F : Fl} {b : Nat} {sl : Value} (h : Tw0 w F b sl F.secs.length wr) : TwSt w F b [] wr := by
  have hc := clr_all F.secs
  refine ⟨_, rfl, h.at', ⟨rfl, rfl, rfl, (fun x hx => by cases hx), clr_length _ _, ?_, ?_, ?_, ?_⟩, ?_, h.below⟩
  · intro i s hs
    have hs2 : (clrTo F.secs F.secs.length)[i]? = some s := hs
    rw [hc, List.getElem?_map] at hs2
    obtain ⟨s0, _, rfl⟩ := Option.map_eq_some_iff.1 hs2
    rfl
  · intro l x r e
    have h1 : ([] : List Wr) = l ++ x :: r := e
    cases l <;> cases h1
  · show (clrTo F.secs F.secs.length).map (·.safe) = _
    rw [hc, List.map_map]
    rfl
  · show (clrTo F.secs F.secs.length).map (·.now) = _
    rw [hc, List.map_map]
    rfl
  · rintro k (rfl | hk | ⟨x, hx, _⟩)
    · exact h.new.1
    · exact h.new.2 k hk
    · cases hx
theorem TwSt.fr {w wr : World} {F : Fl} {b : Nat} {l : List Wr} (h : TwSt w F b l wr) : Below w.heap.size w wr := by
  obtain ⟨T, h1, h2, h3, h4, h5⟩ := h
  exact h5
theorem TwSt.drew {w wr : World} {F : Fl} {b : Nat} {l : List Wr} (h : TwSt w F b l wr) : TwSt w F b l wr.drew := by
  obtain ⟨T, h1, h2, h3, h4, h5⟩ := h
  exact ⟨T, h1, h2.below (Below.refl _ _).drew, h3, h4, thenBelow h5 (Below.refl _ _).drew⟩
theorem TwSt.write {w wr : World} {F : Fl} {b : Nat} {l : List Wr} {x : Wr} (h : TwSt w F b l wr) (hp : x.pos < F.secs.length) (hroom : F.secs.length ≤ 4001) (hf : l.length < 10000) :
    Calls Tryz.prog 90 #[.pointer (some ⟨b, 0, none⟩), .int .i64 x.turn, .int .i64 x.pos, .string x.data] wr fun e w' => e = .returned (.tuple #[]) ∧ TwSt w F b (l ++ [x]) w' := by
  obtain ⟨T, rfl, h2, h3, h4, h5⟩ := h
  have hlen : T.ws.length = l.length := by
    have h6 := congrArg List.length h3.ws
    rwa [List.length_map, List.length_map] at h6
  have hs := h5.size
  refine (h2.over x.turn x.pos x.data (by rw [h3.len]; exact hp) (fun s hs => h3.tops _ s hs) (by rw [h3.len]; exact hroom) (by omega)).mono ?_
  rintro e w' ⟨rfl, sl, b, hw⟩
  refine ⟨rfl, T.write sl b x.turn x.pos x.data, rfl, hw.at', h3.step hp sl b, ?_, ?_⟩
  · rintro k (rfl | hk | ⟨y, hy, rfl⟩)
    · exact h4 _ (.inl rfl)
    · rcases hw.row k hk with hk | hk
      · exact h4 _ (.inr (.inl hk))
      · omega
    · rcases List.mem_append.1 hy with hy | hy
      · exact h4 _ (.inr (.inr ⟨y, hy, rfl⟩))
      · obtain rfl := List.mem_singleton.1 hy
        have := hw.new
        show w.heap.size ≤ b
        omega
  · exact fr_new h5 hw.fr h4
def TwinPost (w : World) (F : Fl) (e : Ending) (w' : World) : Prop :=
  ∃ T, e = .returned (.pointer (some ⟨T.b, 0, none⟩)) ∧ FileAt w' T ∧ Tw F F.ws T ∧ (∀ k, T.foot k → w.heap.size ≤ k) ∧ Below w.heap.size w w'
set_option maxRecDepth 100000 in
set_option maxHeartbeats 2000000 in
theorem twin_any {w : World} {F : Fl} (h : FileAt w F) (ok : FileOk F) : Calls Tryz.prog 25 #[.pointer (some ⟨F.b, 0, none⟩)] w (TwinPost w F) := by
  have HCl : Hid (∀ W, Below w.heap.size w W → Calls Tryz.prog 96 #[F.sl] W fun e w' => ∃ a' cap', e = .returned (.slice a' F.secs.length cap') ∧ w'.ownsRow w.heap.size 116 3 (.slice a' F.secs.length cap') F.secs.length (secsCells F.secs) ∧ Below w.heap.size w w') := fun W hW => (clone_secs (h.below hW) ok.room).mono fun e w' ⟨v', a, b, c⟩ => by
    obtain ⟨a', cap', rfl⟩ := owns_shape (owns_zero b)
    exact ⟨a', cap', a, owns_le b hW.size, thenBelow hW c⟩
  have HC0 : Hid (∀ W, Below w.heap.size w W → W.cell? ⟨F.b, 0, none⟩ = some F.sl ∧ W.cell? ⟨F.b, 1, none⟩ = some (.int .i64 F.ns) ∧ W.cell? ⟨F.b, 2, none⟩ = some (.bool F.stays)) := fun W hW => by
    have hb := (h.below hW).blk
    exact ⟨cell_at hb 0, cell_at hb 1, cell_at hb 2⟩
  obtain ⟨p, hp⟩ := ptr_shape (hd F.ws none)
  have HC3 : Hid (∀ W, Below w.heap.size w W → W.cell? ⟨F.b, 3, none⟩ = some (.pointer p)) := fun W hW => (cell_at (h.below hW).blk 3).trans (by show some (ptr (hd F.ws none)) = _; rw [hp])
  have HP := Lib.hid hp
  have HF := Lib.hid h
  have HOk := Lib.hid ok
  obtain ⟨a, cap, hsl⟩ := owns_shape h.row
  have HSl := Lib.hid hsl
  have hnn := ok.room
  clear h ok hp hsl
  go_enter Tryz.func25, Tryz.ntmps25
  go_upto_region 1 with fail
  go_cut [3] from 6 to 20 (fun v W => ∃ b sl, v = .pointer (some ⟨b, 0, none⟩) ∧ Hid (Tw0 w F b sl 0 W))
  case first =>
    go_region_held3 (fun W => W.cell? ⟨F.b, 0, none⟩ = some F.sl ∧ W.cell? ⟨F.b, 1, none⟩ = some (.int .i64 F.ns) ∧ W.cell? ⟨F.b, 2, none⟩ = some (.bool F.stays)) (first | exact HC0.out _ (Below.refl _ _).drew | exact HC0.out _ (Below.refl _ _) | exact HC0.out _ HB.out | exact HC0.out _ (grow HB.out _)) ((first | (go_at_call 96; (with_reducible refine (HCl.out _ (by first | exact (Below.refl _ _).drew | exact Below.refl _ _)).mono ?_); rintro e w2 ⟨a', cap', rfl, h1, h2⟩; have HO := Lib.hid h1; have HB := Lib.hid h2; clear h1 h2)))
    all_goals
      go_wp2_with fail
      go_meet
      exact ⟨_, _, rfl, tw0_made HO.out HB.out⟩
  case rest =>
    obtain ⟨b, sl, rfl, hst⟩ := hcut
    have HT := hst
    clear hst HCl HC0
    obtain ⟨a', cap', hsl'⟩ := owns_shape HT.out.at'.row
    have hcl := clr_length F.secs 0
    have hsl2 : sl = .slice a' F.secs.length cap' := by rw [← hcl]; exact hsl'
    subst hsl2
    clear hsl' hcl
    have q0 : wc.cell? ⟨b, 0, none⟩ = some (.slice a' F.secs.length cap') := (cell_at HT.out.at'.blk 0).trans rfl
    go_wp2
    clear q0
    go_loopg [4, 26] (F.secs.length) (fun q vi vt wr => ∃ i, i ≤ F.secs.length ∧ F.secs.length - i ≤ q ∧ vt = .int .i64 (i : Nat) ∧ Hid (Tw0 w F b (.slice a' F.secs.length cap') i wr))
    case atStart => exact ⟨0, Nat.zero_le _, by omega, rfl, HT.out⟩
    case round =>
      clear HT
      obtain ⟨i, hi, hq, rfl, hst⟩ := hrel
      have HT := hst
      clear hst
      by_cases hin : i < F.secs.length
      · have hrow := HT.out.at'.row
        have hcl := clr_length F.secs i
        obtain ⟨g, cap2, cur, e, _⟩ := owns_some hrow (by show 0 < (clrTo F.secs i).length; omega)
        have e2 : (Value.slice a' F.secs.length cap') = .slice (some ⟨g, 0, none⟩) (clrTo F.secs i).length cap2 := e
        rw [hcl] at e2
        simp only [Value.slice.injEq, true_and] at e2
        obtain ⟨rfl, rfl⟩ := e2
        have hrow2 : wr.ownsRow 0 116 3 (.slice (some ⟨g, 0, none⟩) F.secs.length cap') F.secs.length (secsCells (clrTo F.secs i)) := by rw [← hcl]; exact hcl ▸ hrow
        obtain ⟨s, hs⟩ : ∃ s, (clrTo F.secs i)[i]? = some s := ⟨_, List.getElem?_eq_getElem (by omega)⟩
        obtain ⟨_, _, s2⟩ := secs_at _ i s hs
        obtain ⟨u, hu⟩ := ptr_shape s.top
        have q0 : wr.cell? ⟨b, 0, none⟩ = some (.slice (some ⟨g, 0, none⟩) F.secs.length cap') := (cell_at HT.out.at'.blk 0).trans rfl
        have r2 : wr.cell? ⟨g, i * 3 + 2, none⟩ = some (.pointer u) := owns_cell hrow2 (by rw [s2, hu])
        have f2 : wr.frozen? ⟨g, i * 3 + 2, none⟩ = false := owns_free hrow2 _
        have HT2 := Lib.hid (HT.out.clr hin)
        have b0 : (0 : Int) ≤ (i : Int) := by omega
        have b1 : (i : Int) < (F.secs.length : Int) := by omega
        clear hrow hcl e hrow2 hs s2 hu HT
        go_wp2
        go_roundg (F.secs.length - (i + 1))
        case measure => omega
        case rel => exact ⟨i + 1, by omega, Nat.le_refl _, by go_num, HT2.out⟩
      · obtain rfl : i = F.secs.length := by omega
        have c3 := HC3.out wr HT.out.below
        have HS := Lib.hid HT.out.start
        clear HT
        go_wp2
        clear c3
        go_loopg [5] (F.ws.length) (fun q v wx => ∃ l r, Hid (F.ws = l ++ r) ∧ r.length ≤ q ∧ v = ptr (hd r none) ∧ Hid (TwSt w F b l wx))
        case atStart => exact ⟨[], F.ws, Lib.hid rfl, Nat.le_refl _, HP.out.symm, HS.out⟩
        case round =>
          clear HS
          obtain ⟨l, r, hlr, hgr, rfl, hst⟩ := hrel
          have HS := hst
          have HLR := hlr
          clear hst hlr
          cases r with
          | nil =>
            rw [show ptr (hd [] none) = .pointer none from rfl]
            have HS2 : Hid (TwSt w F b F.ws wr) := by
              have h1 := HLR.out
              rw [List.append_nil] at h1
              have h2 := HS.out
              rw [← h1] at h2
              exact h2
            clear HS HLR
            go_wp2
            go_ret
            obtain ⟨T, rfl, h2, h3, h4, h5⟩ := HS2.out
            exact ⟨T, rfl, h2, h3, h4, h5⟩
          | cons x r =>
            have hx : x ∈ F.ws := by rw [HLR.out]; simp
            have hpos := HOk.out.pos x hx
            have hlen : l.length < 10000 := by
              have h1 := HOk.out.few
              rw [HLR.out, List.length_append, List.length_cons] at h1
              omega
            have hxa : WrAt w x (lst none l) (hd r none) := by
              have h1 := HF.out.seg
              rw [HLR.out, seg_app] at h1
              exact h1.2.1
            obtain ⟨p2, hp2⟩ := ptr_shape (hd r none)
            have hB := HS.out.fr
            have HXc : Hid (∀ W, Below w.heap.size w W → W.cell? ⟨x.b, 0, none⟩ = some (.int .i64 x.turn) ∧ W.cell? ⟨x.b, 1, none⟩ = some (.int .i64 x.pos) ∧ W.cell? ⟨x.b, 2, none⟩ = some (.string x.data)) := fun W hW => by
              have h2 := old_below hxa hW
              exact ⟨cell_at h2 0, cell_at h2 1, cell_at h2 2⟩
            have HX5 : Hid (∀ W, Below w.heap.size w W → W.cell? ⟨x.b, 5, none⟩ = some (.pointer p2)) := fun W hW => by
              have h2 := old_below hxa hW
              exact (cell_at h2 5).trans (by show some (ptr (hd r none)) = _; rw [hp2])
            have HWr : Hid (∀ W, TwSt w F b l W → Calls Tryz.prog 90 #[.pointer (some ⟨b, 0, none⟩), .int .i64 x.turn, .int .i64 x.pos, .string x.data] W fun e w' => e = .returned (.tuple #[]) ∧ TwSt w F b (l ++ [x]) w') := fun W h => h.write hpos hnn hlen
            have HP2 := Lib.hid hp2
            have HBw := Lib.hid hB
            have hr2 : r.length < F.ws.length := by rw [HLR.out, List.length_append, List.length_cons]; omega
            rw [show ptr (hd (x :: r) none) = .pointer (some ⟨x.b, 0, none⟩) from rfl]
            clear hx hpos hlen hxa hp2 hB HP HF HOk HSl HC3
            go_wp2
            go_region_held3 (fun W => W.cell? ⟨x.b, 0, none⟩ = some (.int .i64 x.turn) ∧ W.cell? ⟨x.b, 1, none⟩ = some (.int .i64 x.pos) ∧ W.cell? ⟨x.b, 2, none⟩ = some (.string x.data)) (first | exact HXc.out _ (thenBelow HBw.out (Below.refl _ _).drew) | exact HXc.out _ HBw.out | exact HXc.out _ HS2.out.fr) ((first | (go_at_call 90; (with_reducible refine (HWr.out _ (by first | exact HS.out.drew | exact HS.out)).mono ?_); rintro e w4 ⟨rfl, hq⟩; have HS2 := Lib.hid hq; have x5 := HX5.out _ hq.fr; clear hq)))
            go_wp2
            go_roundg (r.length)
            case measure => simp at hgr; omega
            case rel => exact ⟨l ++ [x], r, Lib.hid (by rw [HLR.out]; simp), Nat.le_refl _, HP2.out.symm, HS2.out⟩

end Go.Proofs.YtaabepiddbnggaaGreat.P4

namespace Go.Proofs.YtaabepiddbnggaaGreat.P4
open Go Go.RowKit Go.Lib Go.Maps Go.ChangeMaps Go.MapKept Go.Proofs.YtaabepiddbnggaaGreat.P3

/-- a name, its file, the file's twin -/
abbrev ZL := List (List UInt8 × Fl × Fl)
def zS (Z : ZL) : Files := Z.map fun z => (z.1, z.2.1)
def zT (Z : ZL) : Files := Z.map fun z => (z.1, z.2.2)
theorem z_names (Z : ZL) : (zT Z).map (·.1) = (zS Z).map (·.1) := by
  unfold zT zS
  rw [List.map_map, List.map_map]
  rfl
theorem z_turns : ∀ {Z : ZL}, (∀ z ∈ Z, Tw z.2.1 z.2.1.ws z.2.2) → (allW (zT Z)).map (fun x => (x.turn, x.pos, x.data)) = (allW (zS Z)).map (fun x => (x.turn, x.pos, x.data))
  | [], _ => rfl
  | z :: r, h => by
    have ih := z_turns (fun y hy => h y (List.mem_cons_of_mem _ hy))
    show (allW ((z.1, z.2.2) :: zT r)).map _ = (allW ((z.1, z.2.1) :: zS r)).map _
    rw [allW_cons, allW_cons, List.map_append, List.map_append, ih]
    have h2 := (h z List.mem_cons_self).ws
    congr 1
theorem z_len {Z : ZL} (h : ∀ z ∈ Z, Tw z.2.1 z.2.1.ws z.2.2) : (allW (zT Z)).length = (allW (zS Z)).length := by
  have h1 := congrArg List.length (z_turns h)
  rwa [List.length_map, List.length_map] at h1
theorem z_turn {Z : ZL} (h : ∀ z ∈ Z, Tw z.2.1 z.2.1.ws z.2.2) : (allW (zT Z)).map (·.turn) = (allW (zS Z)).map (·.turn) := by
  have h1 := congrArg (List.map (fun x : Nat × Nat × ByteArray => x.1)) (z_turns h)
  rw [List.map_map, List.map_map] at h1
  exact h1
theorem z_still {Z : ZL} (h : ∀ z ∈ Z, Tw z.2.1 z.2.1.ws z.2.2) : ∀ x ∈ allW (zT Z), x.kept = 0 := by
  intro x hx
  obtain ⟨p, hp, hxp⟩ := allW_mem.1 hx
  obtain ⟨z, hz, rfl⟩ := List.mem_map.1 hp
  exact (h z hz).still x hxp
theorem z_ok {w w' : World} {L : Files} {Z : ZL} (hF : FilesOk w L) (hp : (zS Z).Perm L) (h : ∀ z ∈ Z, Tw z.2.1 z.2.1.ws z.2.2) (hat : FilesAt w' (zT Z)) (hap : (zT Z).Pairwise (fun p q => ∀ k, p.2.foot k → ¬ q.2.foot k)) : FilesOk w' (zT Z) := by
  have hl : (zT Z).length = L.length := by rw [← hp.length_eq]; unfold zT zS; rw [List.length_map, List.length_map]
  refine ⟨hat, ?_, ?_, hap, by rw [hl]; exact hF.few, ?_, ?_⟩
  · intro p hpz
    obtain ⟨z, hz, rfl⟩ := List.mem_map.1 hpz
    exact (h z hz).ok (hF.ok (z.1, z.2.1) (hp.mem_iff.1 (List.mem_map.2 ⟨z, hz, rfl⟩)))
  · rw [z_names]
    exact (hp.map _).nodup_iff.2 hF.names
  · intro p hpz
    obtain ⟨z, hz, rfl⟩ := List.mem_map.1 hpz
    exact hF.long (z.1, z.2.1) (hp.mem_iff.1 (List.mem_map.2 ⟨z, hz, rfl⟩))
  · rw [z_turn h]
    exact ((allW_perm hp).map _).nodup_iff.2 hF.tnd
theorem z_abs {Z : ZL} (h : ∀ z ∈ Z, Tw z.2.1 z.2.1.ws z.2.2) : absL (zT Z) = (absL (zS Z)).map (fun p => (p.1, p.2.redo)) := by
  unfold absL zT zS
  rw [List.map_map, List.map_map, List.map_map]
  apply List.map_congr_left
  intro z hz
  show (z.1, z.2.2.abs) = (z.1, z.2.1.abs.redo)
  rw [(h z hz).abs]

/-- the twin of a disk on the way -/
structure TwD (w : World) (K : Dk) (D mb : Nat) (kv : Value) (Z : ZL) (wr : World) : Prop where
  blk : wr.heap[D]? = some (.cells ({ K with m := some mb, kv := kv } : Dk).cells 67 (0, 0))
  kvo : wr.ownsRow w.heap.size 3 1 kv K.keep.length (ivs K.keep)
  map : MapAt wr (some mb) (dir (zT Z))
  at' : FilesAt wr (zT Z)
  tw : ∀ z ∈ Z, Tw z.2.1 z.2.1.ws z.2.2
  new : ∀ p ∈ zT Z, ∀ k, p.2.foot k → w.heap.size ≤ k
  apart : (zT Z).Pairwise (fun p q => ∀ k, p.2.foot k → ¬ q.2.foot k)
  lo : w.heap.size ≤ D ∧ w.heap.size ≤ mb
  below : Below w.heap.size w wr
theorem owns_below {w w' : World} {lo e z n : Nat} {v : Value} {xs : List Value} (h : w.ownsRow lo e z v n xs) (hb : Below w.heap.size w w') : w'.ownsRow lo e z v n xs := by
  refine ⟨h.1, ?_⟩
  rcases h.2 with h2 | ⟨g, cap, cur, rfl, h1, h2, h3⟩
  · exact .inl h2
  · exact .inr ⟨g, cap, cur, rfl, h1, old_below h2 hb, h3⟩
theorem TwD.keep {w wr w' : World} {K : Dk} {D mb : Nat} {kv : Value} {Z : ZL} (h : TwD w K D mb kv Z wr) (hb : Below wr.heap.size wr w') : TwD w K D mb kv Z w' :=
  ⟨old_below h.blk hb, owns_below h.kvo hb, h.map.fr (S := fun _ => False) (.of hb) (fun _ _ => id), fun p hp => (h.at' p hp).below hb, h.tw, h.new, h.apart, h.lo, thenBelow h.below hb⟩
theorem TwD.mapb {w wr : World} {K : Dk} {D mb : Nat} {kv : Value} {Z : ZL} (h : TwD w K D mb kv Z wr) : ∃ es cl, wr.heap[mb]? = some (.map es cl) := by
  rcases h.map with ⟨h1, _⟩ | ⟨b', D', h1, ⟨es, cl, h2, _⟩, _⟩
  · cases h1
  · obtain rfl : mb = b' := by simpa using h1
    exact ⟨_, _, h2⟩
/-- a block changed that holds no cells -/
theorem TwD.only {w wr w' : World} {K : Dk} {D mb r : Nat} {kv : Value} {Z : ZL} (h : TwD w K D mb kv Z wr) (ho : Only r wr w') (hr : ∀ c ty, wr.heap[r]? ≠ some (.cells c ty (0, 0))) (hlo : w.heap.size ≤ r) (hmap : MapAt w' (some mb) (dir (zT Z))) : TwD w K D mb kv Z w' := by
  refine ⟨ho.keep h.blk (fun e => hr _ _ (e ▸ h.blk)), ?_, hmap, fun p hp => ?_, h.tw, h.new, h.apart, h.lo, Only.new h.below ho hlo⟩
  · refine owns_only h.kvo ho (fun k hk e => ?_)
    subst e
    rcases h.kvo.2 with ⟨e, _⟩ | ⟨g, cap, cur, e, _, h2, _⟩
    · rw [e] at hk; cases hk
    · rw [e] at hk
      obtain rfl : g = k := by simpa [Value.ownBlock] using hk
      exact hr _ _ h2
  · refine (h.at' p hp).fr (S := (· = r)) (.only ho rfl) (fun k hk e => ?_)
    subst e
    obtain ⟨c, ty, h1, _⟩ := (h.at' p hp).kinds k hk
    exact hr _ _ h1
theorem put_new {L : Files} {n : List UInt8} (F : Fl) (h : n ∉ L.map (·.1)) : putL (dir L) n F.b = dir (L ++ [(n, F)]) := by
  unfold putL dir
  rw [List.map_append, List.filter_eq_self.2 (fun p hp => ?_)]
  · rfl
  · obtain ⟨q, hq, rfl⟩ := List.mem_map.1 hp
    have : q.1 ≠ n := fun e => h (List.mem_map.2 ⟨q, hq, e⟩)
    simpa using this
/-- one file more -/
theorem TwD.add {w wr : World} {K : Dk} {D mb : Nat} {kv : Value} {Z : ZL} {F T : Fl} (h : TwD w K D mb kv Z wr) (s : ByteArray) (hs : s.size ≤ maxLen) (hz : Z.length ≤ 1000) (hnd : ((zT Z).map (·.1)).Nodup) (hno : s.data.toList ∉ (zT Z).map (·.1))
    (hT : FileAt wr T) (htw : Tw F F.ws T) (hnew : ∀ k, T.foot k → w.heap.size ≤ k) (hap : ∀ p ∈ zT Z, ∀ k, p.2.foot k → ¬ T.foot k) :
    ∃ w3, (Instr.mapUpdate 65 (.map (some mb)) (.string s) (.pointer (some ⟨T.b, 0, none⟩))).run Tryz.prog wr = .ok () w3 ∧ Only mb wr w3 ∧ TwD w K D mb kv (Z ++ [(s.data.toList, F, T)]) w3 := by
  have hdl : (dir (zT Z)).length ≤ 1000 := by unfold dir zT; rw [List.length_map, List.length_map]; exact hz
  obtain ⟨w3, hrun, hm3, ht⟩ := h.map.put (by rw [dir_names]; exact hnd) hdl hs T.b
  have ho := turned_only ht
  obtain ⟨es, cl, hmb⟩ := h.mapb
  have hr : ∀ c ty fz, wr.heap[mb]? ≠ some (.cells c ty fz) := fun c ty fz e => by rw [hmb] at e; cases e
  rw [put_new T hno] at hm3
  have hzt : zT (Z ++ [(s.data.toList, F, T)]) = zT Z ++ [(s.data.toList, T)] := by unfold zT; rw [List.map_append]; rfl
  have hT3 : FileAt w3 T := hT.fr (S := (· = mb)) (.only ho rfl) (fun k hk e => by
    subst e
    obtain ⟨c, ty, h1, _⟩ := hT.kinds k hk
    exact hr _ _ _ h1)
  refine ⟨w3, hrun, ho, ?_⟩
  refine ⟨ho.keep h.blk (fun e => hr _ _ _ (e ▸ h.blk)), ?_, by rw [hzt]; exact hm3, ?_, ?_, ?_, ?_, h.lo, Only.new h.below ho h.lo.2⟩
  · refine owns_only h.kvo ho (fun k hk e => ?_)
    subst e
    rcases h.kvo.2 with ⟨e, _⟩ | ⟨g, cap, cur, e, _, h2, _⟩
    · rw [e] at hk; cases hk
    · rw [e] at hk
      obtain rfl : g = k := by simpa [Value.ownBlock] using hk
      exact hr _ _ _ h2
  · rw [hzt]
    intro p hp
    rcases List.mem_append.1 hp with hp | hp
    · refine (h.at' p hp).fr (S := (· = mb)) (.only ho rfl) (fun k hk e => ?_)
      subst e
      obtain ⟨c, ty, h1, _⟩ := (h.at' p hp).kinds k hk
      exact hr _ _ _ h1
    · obtain rfl := List.mem_singleton.1 hp
      exact hT3
  · intro z hz
    rcases List.mem_append.1 hz with hz | hz
    · exact h.tw z hz
    · obtain rfl := List.mem_singleton.1 hz
      exact htw
  · rw [hzt]
    intro p hp
    rcases List.mem_append.1 hp with hp | hp
    · exact h.new p hp
    · obtain rfl := List.mem_singleton.1 hp
      exact hnew
  · rw [hzt, List.pairwise_append]
    refine ⟨h.apart, List.pairwise_singleton _ _, fun p hp q hq => ?_⟩
    obtain rfl := List.mem_singleton.1 hq
    exact hap p hp

/-- the disk that comes out of it -/
theorem TwD.done {w wr : World} {d : Nat} {K : Dk} {D mb : Nat} {kv : Value} {Z : ZL} (hK : DiskAt w d K) (h : TwD w K D mb kv Z wr) (hp : (zS Z).Perm K.files) :
    DiskAt wr D { K with m := some mb, kv := kv, files := zT Z } ∧ (∀ k, ({ K with m := some mb, kv := kv, files := zT Z } : Dk).foot D k → w.heap.size ≤ k) := by
  have hpa := allW_perm hp
  refine ⟨⟨h.blk, owns_zero h.kvo, h.map, z_ok hK.files hp h.tw h.at' h.apart, z_still h.tw, ?_, ?_⟩, ?_⟩
  · intro x hx
    have h1 : x.turn ∈ (allW (zT Z)).map (·.turn) := List.mem_map_of_mem hx
    rw [z_turn h.tw] at h1
    obtain ⟨y, hy, e⟩ := List.mem_map.1 h1
    show x.turn ≤ K.turn
    rw [← e]
    exact hK.turns y (hpa.mem_iff.1 hy)
  · show (allW (zT Z)).length ≤ K.turn ∧ K.turn ≤ 9000
    rw [z_len h.tw, hpa.length_eq]
    exact hK.many
  · rintro k (rfl | hk | ⟨p, hp, hk⟩ | hk)
    · exact h.lo.1
    · obtain rfl : mb = k := by simpa using hk
      exact h.lo.2
    · exact h.new p hp k hk
    · exact (h.kvo.lt k hk).1

end Go.Proofs.YtaabepiddbnggaaGreat.P4

namespace Go.Proofs.YtaabepiddbnggaaGreat.P4
open Go Go.RowKit Go.Lib Go.Maps Go.ChangeMaps Go.MapKept Go.Proofs.YtaabepiddbnggaaGreat.P3

theorem clone_ints {w : World} {v : Value} {l : List Int} (h : w.ownsRow 0 3 1 v l.length (ivs l)) (hl : l.length ≤ 1000000) :
    Calls Tryz.prog 24 #[v] w fun e w' => ∃ a' cap', e = .returned (.slice a' l.length cap') ∧ w'.ownsRow w.heap.size 3 1 (.slice a' l.length cap') l.length (ivs l) ∧ Below w.heap.size w w' := by
  rcases h.2 with ⟨rfl, h0⟩ | ⟨g, cap, cur, rfl, _, h2, h3, h4, h5, h6⟩
  · have e : l = [] := List.eq_nil_of_length_eq_zero h0
    subst e
    refine (clone_nilI w).mono ?_
    rintro e w' ⟨rfl, rfl⟩
    exact ⟨none, 0, rfl, World.ownsRow_nil _ _ _ _, Below.refl _ _⟩
  · refine (Tryz.slices_Clone_int g 0 l.length cap l w (Nat.le_refl _) (by omega) (fun j hj => ?_)).mono ?_
    · rw [Nat.zero_add, cell_at h2]
      have h7 : (cur.toList.take (l.length * 1))[j]? = (ivs l)[j]? := by rw [h6]
      rw [List.getElem?_take_of_lt (by omega), Array.getElem?_toList] at h7
      rw [h7]
      unfold ivs
      rw [List.getElem?_map, List.getElem?_eq_getElem hj, List.getD_eq_getElem?_getD, List.getElem?_eq_getElem hj]
      rfl
    · rintro e w' ⟨v', rfl, h1, _, h2⟩
      rw [List.take_length] at h1
      obtain ⟨a', cap', rfl⟩ := owns_shape (owns_zero h1)
      exact ⟨a', cap', rfl, h1, h2⟩

theorem TwD.start {w w2 : World} {K : Dk} {kv : Value} {c : Array Value} (hc : c = K.cells) (hb2 : w2.heap[w.heap.size]? = some (.cells c 67 (0, 0)))
    (hO : w2.ownsRow (w.heap.size + 1) 3 1 kv K.keep.length (ivs K.keep)) (hB : Below w.heap.size w w2) :
    TwD w K w.heap.size w2.heap.size kv [] (((w2.setCell ⟨w.heap.size, 6, none⟩ kv).setCell ⟨w.heap.size, 0, none⟩ (.map (some w2.heap.size))).alloc (.map #[] 0)) := by
  have hs := hB.size
  have ho : Only w.heap.size w2 ((w2.setCell ⟨w.heap.size, 6, none⟩ kv).setCell ⟨w.heap.size, 0, none⟩ (.map (some w2.heap.size))) := ((Only.refl _ _).setCell _ _).setCell _ _
  have hsz : ((w2.setCell ⟨w.heap.size, 6, none⟩ kv).setCell ⟨w.heap.size, 0, none⟩ (.map (some w2.heap.size))).heap.size = w2.heap.size := by simp [World.setCell]
  refine ⟨?_, ?_, ?_, fun p hp => (by cases hp), fun z hz => (by cases hz), fun p hp => (by cases hp), List.Pairwise.nil, ⟨Nat.le_refl _, hs⟩, grow (Only.new hB ho (Nat.le_refl _)) _⟩
  · have h1 := old_alloc (set_at (set_at hb2 6 kv) 0 (.map (some w2.heap.size))) (.map #[] 0)
    rw [hc] at h1
    exact h1
  · refine World.ownsRow.alloc (owns_le (owns_only hO ho (fun k hk => ?_)) (Nat.le_succ _)) _
    have := (hO.lt k hk).1
    omega
  · have h1 := MapAt.made ((w2.setCell ⟨w.heap.size, 6, none⟩ kv).setCell ⟨w.heap.size, 0, none⟩ (.map (some w2.heap.size)))
    rw [hsz] at h1
    exact h1

def DTwin (w : World) (K : Dk) (e : Ending) (w' : World) : Prop :=
  ∃ D mb kv Z, e = .returned (.pointer (some ⟨D, 0, none⟩)) ∧ (zS Z).Perm K.files ∧ (∀ z ∈ Z, Tw z.2.1 z.2.1.ws z.2.2) ∧ DiskAt w' D { K with m := some mb, kv := kv, files := zT Z } ∧ (∀ k, ({ K with m := some mb, kv := kv, files := zT Z } : Dk).foot D k → w.heap.size ≤ k) ∧ Below w.heap.size w w'
set_option maxRecDepth 100000 in
set_option maxHeartbeats 2000000 in
theorem DiskAt.twin {w : World} {d : Nat} {K : Dk} (h : DiskAt w d K) (hk : K.keep.length ≤ 1000000) : Calls Tryz.prog 7 #[.pointer (some ⟨d, 0, none⟩)] w (DTwin w K) := by
  obtain ⟨ak, ck, hkv⟩ := owns_shape h.keep
  have c0 : w.cell? ⟨d, 0, none⟩ = some (.map K.m) := cell_at h.blk 0
  have c1 : w.cell? ⟨d, 1, none⟩ = some (.bool K.on) := cell_at h.blk 1
  have c2 : w.cell? ⟨d, 2, none⟩ = some (.int .i64 K.room) := cell_at h.blk 2
  have c3 : w.cell? ⟨d, 3, none⟩ = some (.int .i64 K.turn) := cell_at h.blk 3
  have c4 : w.cell? ⟨d, 4, none⟩ = some (.bool K.armed) := cell_at h.blk 4
  have c5 : w.cell? ⟨d, 5, none⟩ = some (.int .i64 K.left) := cell_at h.blk 5
  have c6 : w.cell? ⟨d, 6, none⟩ = some (.slice ak K.keep.length ck) := (cell_at h.blk 6).trans (by rw [← hkv]; rfl)
  have hd := lt_of_block h.blk
  have HH := Lib.hid h
  have HCl : Hid (∀ W, Below w.heap.size w W → Calls Tryz.prog 24 #[.slice ak K.keep.length ck] W fun e w' => ∃ a' cap', e = .returned (.slice a' K.keep.length cap') ∧ w'.ownsRow W.heap.size 3 1 (.slice a' K.keep.length cap') K.keep.length (ivs K.keep) ∧ Below W.heap.size W w') := fun W hW => by
    have h1 := owns_below h.keep hW
    rw [hkv] at h1
    exact clone_ints h1 hk
  have HM : Hid (∀ W, Below w.heap.size w W → MapAt W K.m (dir K.files)) := fun W hW => h.map.fr (S := fun _ => False) (.of hW) (fun _ _ => id)
  have HKv := Lib.hid hkv
  clear h hkv
  have hmm := @run_makeMap Tryz.prog
  obtain ⟨D, hD⟩ : ∃ D, D = w.heap.size := ⟨_, rfl⟩
  have HD := Lib.hid hD
  clear hD
  go_enter Tryz.func7, Tryz.ntmps7
  have hdn : d ≠ w.heap.size := by omega
  go_upto_region 6 with ((go_at_call 24; (with_reducible refine (HCl.out _ (below_new w _)).mono ?_); rintro e w2 ⟨a', cap', rfl, h1, h2⟩; have hb2 := old_below (new_at w _ _) h2; have q6 : w2.cell? ⟨w.heap.size, 6, none⟩ = some (.slice ak K.keep.length ck) := cell_at hb2 6; have f6 := free_at hb2 6; have q0 : w2.cell? ⟨w.heap.size, 0, none⟩ = some (.map K.m) := cell_at hb2 0; have f0 := free_at hb2 0; have hlt := lt_of_block hb2; have HO := Lib.hid h1; have HB := Lib.hid h2; have HB2 := Lib.hid hb2; clear h1 h2 hb2))
  have HT := Lib.hid (TwD.start (K := K) (w := w) (c := _) (by rw [← HKv.out]; rfl) HB2.out (owns_le HO.out (by simp)) (Below.trans (below_new w _) (HB.out.mono (by simp))))
  clear q6 f6 q0 f0 hlt HO HB HB2 c0 c1 c2 c3 c4 c5 c6 hdn HCl hmm
  generalize (((w2.setCell _ _).setCell _ _).alloc _ : World) = W at HT ⊢
  generalize w2.heap.size = mb at HT ⊢
  generalize Value.slice a' K.keep.length cap' = kv at HT ⊢
  have HFd := Lib.hid (fun W (hW : Below w.heap.size w W) => HH.out.below hW)
  have c0 : W.cell? ⟨d, 0, none⟩ = some (.map K.m) := cell_at (HFd.out W HT.out.below).blk 0
  have HMW := Lib.hid (HM.out W HT.out.below)
  obtain ⟨D, hD⟩ : ∃ D, D = w.heap.size := ⟨_, rfl⟩
  have HT2 : Hid (TwD w K D mb kv [] W) := by rw [hD]; exact HT.out
  rw [← hD]
  clear HT hD
  have HN := Lib.hid HH.out.files.names
  have hfew := HH.out.files.few
  go_wp2_with (at_range; refine wpList_range_o rfl _ rfl K.m (dir K.files) rfl HMW.out ?_; intro w0 hr0 hb0 hs0; clear hs0)
  go_frame
  obtain ⟨r, hr⟩ : ∃ r, r = W.heap.size := ⟨_, rfl⟩
  rw [← hr] at hr0 ⊢
  have HNe : Hid (mb ≠ r) := by
    obtain ⟨es, cl, h1⟩ := HT2.out.mapb
    have := lt_of_block h1
    exact fun e => by omega
  have HRl : Hid (w.heap.size ≤ r) := by rw [hr]; exact HT2.out.below.size
  have hdl : (dir K.files).length = K.files.length := by unfold dir; rw [List.length_map]
  rw [hdl] at hr0
  have HR0 := Lib.hid hr0
  have HT0 := Lib.hid (HT2.out.keep hb0)
  clear hr0 hb0 hr hdl HT2 c0 HMW hd
  go_loopg [4, 5] (K.files.length) (fun q vn vf wr => ∃ (lf : List UInt8 → Bool) (cnt : Nat) (Z : ZL), cnt ≤ q ∧ Hid (RngO wr K.m r (dir K.files) lf cnt) ∧ Hid ((zS Z).Perm (doneL K.files lf)) ∧ Hid (TwD w K D mb kv Z wr))
  case atStart => exact ⟨_, _, [], Nat.le_refl _, HR0.out, by rw [done_none HN.out]; exact List.Perm.refl _, HT0.out⟩
  case round =>
    clear HR0 HT0
    obtain ⟨lf, cnt, Z, hq, hR, hP, hT⟩ := hrel
    go_wp2_with (at_next; refine wpList_next_o rfl _ rfl K.m r (dir K.files) lf cnt rfl hR.out ?_ ?_)
    · intro hno
      have HP := Lib.hid (show (zS Z).Perm K.files from by have := hP.out; rw [done_all hno] at this; exact this)
      clear hno hR hP hq
      go_wp2
      go_ret
      obtain ⟨h1, h2⟩ := hT.out.done HH.out HP.out
      exact ⟨D, mb, kv, Z, rfl, HP.out, hT.out.tw, h1, h2, hT.out.below⟩
    · intro s fb w1 cnt1 hs hm1 hlf hR1 hlt ho1 hs1 hen
      obtain ⟨F, hFm, rfl⟩ := dir_mem hm1
      have hT1 : TwD w K D mb kv Z w1 := hT.out.only ho1 hR.out.notCells.1 HRl.out (hT.out.map.fr (S := (· = r)) (.only ho1 rfl) (fun b hb e => by
        obtain rfl : mb = b := by simpa using hb
        exact HNe.out e))
      have hst := done_step hlf HN.out hFm
      have hzl : Z.length ≤ 60 := by
        have h1 := hP.out.length_eq
        have h2 : (doneL K.files lf).length ≤ K.files.length := List.length_filter_le _ _
        unfold zS at h1
        rw [List.length_map] at h1
        omega
      have hnd : ((zT Z).map (·.1)).Nodup := by
        rw [z_names]
        exact (hP.out.map _).nodup_iff.2 (HN.out.sublist (List.filter_sublist.map _))
      have hno : s.data.toList ∉ (zT Z).map (·.1) := by
        rw [z_names]
        intro hx
        obtain ⟨p, hp, e⟩ := List.mem_map.1 ((hP.out.map _).mem_iff.1 hx)
        have h1 := (List.mem_filter.1 hp).2
        rw [e, hlf] at h1
        cases h1
      have HSt : Hid (∀ W, Below w1.heap.size w1 W → Calls Tryz.prog 25 #[.pointer (some ⟨F.b, 0, none⟩)] W fun e w' => ∃ b w3 T, e = .returned (.pointer (some ⟨b, 0, none⟩)) ∧ w'.cell? ⟨D, 0, none⟩ = some (.map (some mb)) ∧
          (Instr.mapUpdate 65 (.map (some mb)) (.string s) (.pointer (some ⟨b, 0, none⟩))).run Tryz.prog w' = .ok () w3 ∧ TwD w K D mb kv (Z ++ [(s.data.toList, F, T)]) w3 ∧ RngO w3 K.m r (dir K.files) (fun k => lf k && !(k == s.data.toList)) cnt1) := fun W hW => by
        have hWB := thenBelow hT1.below hW
        have hd := HFd.out W hWB
        refine (twin_any (hd.files.at' _ hFm) (hd.files.ok _ hFm)).mono ?_
        rintro e w' ⟨T, rfl, t1, t2, t3, t4⟩
        have hB1 : Below w1.heap.size w1 w' := thenBelow hW t4
        have hT2 := hT1.keep hB1
        obtain ⟨w3, hrun, ho3, hT3⟩ := hT2.add s hs (by omega) hnd hno t1 t2 (fun k hk => Nat.le_trans hWB.size (t3 k hk)) (fun p hp k hk hk2 => by
          have h1 := (hT1.at' p hp).lt k hk
          have h2 := t3 k hk2
          have h3 := hW.size
          omega)
        refine ⟨T.b, w3, T, rfl, cell_at hT2.blk 0, hrun, hT3, ?_⟩
        refine ((hR1.fr (S := fun _ => False) (.of hB1) (fun _ _ => id) id).fr (S := (· = mb)) (.only ho3 rfl) (fun b hb e => ?_) (fun e => HNe.out e.symm))
        obtain ⟨es, cl, h1⟩ := hT.out.mapb
        have h2 : b < w.heap.size := by
          rcases HH.out.map with ⟨h3, _⟩ | ⟨b', D', h3, ⟨es, cl, h4, _⟩, _⟩
          · rw [h3] at hb; cases hb
          · rw [h3] at hb
            obtain rfl : b' = b := by simpa using hb
            exact lt_of_block h4
        have h3 := hT1.lo.2
        omega
      have hST2 : Hid (∀ T, (zS (Z ++ [(s.data.toList, F, T)])).Perm (doneL K.files (fun k => lf k && !(k == s.data.toList)))) := fun T => by
        have h1 : zS (Z ++ [(s.data.toList, F, T)]) = zS Z ++ [(s.data.toList, F)] := by unfold zS; rw [List.map_append]; rfl
        rw [h1]
        exact (List.perm_append_singleton _ _).trans ((hP.out.cons _).trans hst.symm)
      have c1 : w1.cell? ⟨D, 0, none⟩ = some (.map (some mb)) := cell_at hT1.blk 0
      clear hm1 hlf hR1 hs1 hFm hst hR hP hT hT1 hnd hno hs hzl ho1
      go_wp2
      go_region_with ((go_at_call 25; (with_reducible refine (HSt.out _ (by first | exact (Below.refl _ _).drew | exact Below.refl _ _)).mono ?_); rintro e w2 ⟨b, w3, T, rfl, c2, hrun, h1, h2⟩; have HT3 := Lib.hid h1; have HR3 := Lib.hid h2; clear h1 h2))
      all_goals
        go_wp2
        go_roundg (cnt1)
        case measure => omega
        case rel => exact ⟨_, _, _, Nat.le_refl _, HR3.out, hST2.out _, HT3.out⟩

end Go.Proofs.YtaabepiddbnggaaGreat.P4
