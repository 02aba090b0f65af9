/-
  Package disk: Rename of a file that is there, to a name that may be. (Disk, part 36.)
-/
import Derived.Test.YtlgloikhdbmgdaaAb3
namespace Go.Proofs.Ytlgloikhdbmgdaa.P4
open Go Go.RowKit Go.Lib Go.Maps Go.ChangeMaps Go.MapKept Go.Proofs.Ytlgloikhdbmgdaa.P3

set_option maxRecDepth 100000 in
theorem check2_ok (w : World) (d B : Nat) (s t : ByteArray) (c1 : w.cell? ⟨d, 1, none⟩ = some (.bool true)) (b0 : w.cell? ⟨B, 0, none⟩ = some (.string s)) (b1 : w.cell? ⟨B, 1, none⟩ = some (.string t)) (h1 : 1 ≤ s.size) (h2 : s.size ≤ 40) (g1 : 1 ≤ t.size) (g2 : t.size ≤ 40) :
    Calls Try.prog 31 #[.pointer (some ⟨d, 0, none⟩), .slice (some ⟨B, 0, none⟩) 2 2] w fun e w' => e = .returned (.int .i64 0) ∧ w = w' := by
  have H := Lib.hid (on_any w d true c1)
  have h3 : ¬ s.size < 1 := by omega
  have h4 : ¬ 40 < s.size := by omega
  have g3 : ¬ t.size < 1 := by omega
  have g4 : ¬ 40 < t.size := by omega
  go_enter Try.func31, Try.ntmps31
  go_wp2_with (go_at_call 20; (with_reducible refine H.out.mono ?_); rintro e w' ⟨rfl, rfl⟩)
  go_loop [12] (fun i => i = .int .i64 0 ∨ i = .int .i64 1 ∨ i = .int .i64 2) (fun i => (2 - intOf i).toNat)
  case atStart => exact .inl rfl
  case round =>
    rcases hrel with rfl | rfl | rfl
    · go_wp2
      go_round
      case rel => exact .inr (.inl rfl)
      case measure => simp [intOf]
    · go_wp2
      go_round
      case rel => exact .inr (.inr rfl)
      case measure => simp [intOf]
    · go_wp2
      go_ret
      exact ⟨rfl, rfl⟩

/-- the files behind a Rename -/
def renF (L : Files) (f t : List UInt8) (F : Fl) : Files := (t, F) :: restF (restF L f) t
theorem dir_rest (L : Files) (n : List UInt8) : dir (restF L n) = delL (dir L) n := by
  unfold dir restF delL
  rw [List.filter_map]
  rfl
theorem allW_sub : ∀ {L M : Files}, L.Sublist M → (allW L).Sublist (allW M)
  | _, _, .slnil => List.Sublist.refl _
  | _, _, .cons a h => (allW_sub h).trans (List.sublist_append_right _ _)
  | _, _, .cons_cons a h => List.Sublist.append_left (allW_sub h) _
theorem ren_dir (L : Files) (f t : List UInt8) (F : Fl) : (putL (delL (dir L) f) t F.b).Perm (dir (renF L f t F)) := by
  unfold renF putL
  rw [← dir_rest]
  show (delL (dir (restF L f)) t ++ [(t, F.b)]).Perm ((t, F.b) :: dir (restF (restF L f) t))
  rw [← dir_rest]
  exact List.perm_append_singleton _ _
theorem DiskAt.renamed {w w' : World} {d b : Nat} {K : Dk} {f t : List UInt8} {F : Fl} (h : DiskAt w d K) (hm : (f, F) ∈ K.files) (hb : K.m = some b) (ht : t.length ≤ 40) (hmap : MapAt w' (some b) (putL (delL (dir K.files) f) t F.b)) (ho : Only b w w') :
    Step w d K w' { K with files := renF K.files f t F } := by
  have hp := rest_perm h.files.names hm
  have hf : Fr (fun k => k = b) w w' := .only ho rfl
  have hdb : d ≠ b := fun e => h.mapNe (by rw [hb, e])
  have hs1 := rest_sub K.files f
  have hs2 := rest_sub (restF K.files f) t
  have hsub : ∀ p ∈ restF (restF K.files f) t, p ∈ K.files := fun p hp => hs1.subset (hs2.subset hp)
  have hmem : ∀ p ∈ renF K.files f t F, ∃ q ∈ K.files, q.2 = p.2 := fun p hp => by
    rcases List.mem_cons.1 hp with rfl | hp
    · exact ⟨_, hm, rfl⟩
    · exact ⟨p, hsub p hp, rfl⟩
  have hpa := allW_perm hp
  rw [allW_cons] at hpa
  have hwsub : (F.ws ++ allW (restF (restF K.files f) t)).Sublist (F.ws ++ allW (restF K.files f)) := List.Sublist.append_left (allW_sub hs2) _
  have hall : ∀ x ∈ allW (renF K.files f t F), x ∈ allW K.files := fun x hx => hpa.mem_iff.2 (hwsub.subset (by unfold renF at hx; rw [allW_cons] at hx; exact hx))
  have hlen : (allW (renF K.files f t F)).length ≤ (allW K.files).length := by
    unfold renF
    rw [allW_cons, hpa.length_eq]
    exact hwsub.length_le
  have hmany := h.many
  have hmapb : ∃ es cl, w.heap[b]? = some (.map es cl) := by
    rcases h.map with ⟨h1, _⟩ | ⟨b', D, h1, ⟨es, cl, h2, _⟩, _⟩
    · rw [h1] at hb; cases hb
    · rw [h1] at hb
      obtain rfl : b' = b := by simpa using hb
      exact ⟨_, _, h2⟩
  have hfb : ∀ p ∈ K.files, ¬ p.2.foot b := fun p hp hk => by
    obtain ⟨c, ty, h1, _⟩ := (h.files.at' p hp).kinds b hk
    obtain ⟨es, cl, h2⟩ := hmapb
    rw [h2] at h1; cases h1
  refine ⟨⟨ho.keep h.blk hdb, owns_fr h.keep hf (fun g hg hk => h.kvfar g hg (.inr (.inl (by rw [hb, hk])))), ?_, ⟨?_, ?_, ?_, ?_, ?_, ?_, ?_⟩, ?_, ?_, ?_⟩, ?_, ?_⟩
  · show MapAt w' K.m (dir (renF K.files f t F))
    rw [hb]
    exact looks_perm hmap (ren_dir _ _ _ _)
  · intro p hp
    obtain ⟨q, hq, e⟩ := hmem p hp
    rw [← e]
    exact (h.files.at' q hq).fr hf (fun k hk e => hfb q hq (e ▸ hk))
  · intro p hp
    obtain ⟨q, hq, e⟩ := hmem p hp
    rw [← e]
    exact h.files.ok q hq
  · show (t :: (restF (restF K.files f) t).map (·.1)).Nodup
    rw [List.nodup_cons]
    refine ⟨fun hx => ?_, h.files.names.sublist ((hs2.trans hs1).map _)⟩
    obtain ⟨p, hp, e⟩ := List.mem_map.1 hx
    exact rest_ne p hp e
  · show ((t, F) :: restF (restF K.files f) t).Pairwise _
    rw [List.pairwise_cons]
    refine ⟨fun p hp k hk => ?_, h.files.apart.sublist (hs2.trans hs1)⟩
    exact files_pair h.files.apart hm (hsub p hp) (fun e => rest_ne p (hs2.subset hp) (by rw [← e])) k hk
  · show (restF (restF K.files f) t).length + 1 ≤ 60
    have h1 := hp.length_eq
    have h2 := hs2.length_le
    have h3 := h.files.few
    simp only [List.length_cons] at h1
    omega
  · intro p hp
    rcases List.mem_cons.1 hp with rfl | hp
    · exact ht
    · exact h.files.long p (hsub p hp)
  · show ((allW ((t, F) :: restF (restF K.files f) t)).map (·.turn)).Nodup
    rw [allW_cons]
    exact ((hpa.map (·.turn)).nodup_iff.1 h.files.tnd).sublist (hwsub.map _)
  · exact fun x hx => h.still x (hall x hx)
  · exact fun x hx => h.turns x (hall x hx)
  · exact ⟨Nat.le_trans hlen hmany.1, hmany.2⟩
  · rintro k (hk | hk | ⟨p, hp, hk⟩ | hk)
    · exact .inl (.inl hk)
    · exact .inl (.inr (.inl hk))
    · obtain ⟨q, hq, e⟩ := hmem p hp
      exact .inl (.inr (.inr (.inl ⟨q, hq, by rw [e]; exact hk⟩)))
    · exact .inl (.inr (.inr (.inr hk)))
  · exact .only ho (.inr (.inl hb))

/-- what comes behind the count: the name is deleted, the other one set -/
theorem DiskAt.renAfter {w : World} {d : Nat} {K : Dk} {F : Fl} (h : DiskAt w d K) (s t : ByteArray) (hm : (s.data.toList, F) ∈ K.files) (hs : s.size ≤ maxLen) (ht : t.size ≤ 40) :
    ∃ b w2, K.m = some b ∧ (Builtin.delete_ #[56, 9] 0 #[.map (some b), .string s]).run Try.prog w = .ok (.tuple #[]) w2 ∧ w2.cell? ⟨d, 0, none⟩ = some (.map (some b)) ∧
      ∀ W2, Below w2.heap.size w2 W2 → W2.cell? ⟨d, 0, none⟩ = some (.map (some b)) ∧ ∃ w3, (Instr.mapUpdate 56 (.map (some b)) (.string t) (.pointer (some ⟨F.b, 0, none⟩))).run Try.prog W2 = .ok () w3 ∧ Step w d K w3 { K with files := renF K.files s.data.toList t.data.toList F } := by
  obtain ⟨b, hb⟩ : ∃ b, K.m = some b := by
    rcases h.map with ⟨_, h2⟩ | ⟨b, D, h1, _⟩
    · have h3 : dir K.files = [] := h2
      unfold dir at h3
      rw [List.map_eq_nil_iff] at h3
      rw [h3] at hm; cases hm
    · exact ⟨b, h1⟩
  have hdn : ((dir K.files).map (·.1)).Nodup := by rw [dir_names]; exact h.files.names
  have hmp := h.map
  rw [hb] at hmp
  obtain ⟨w2, hrun, hm2, ht2, _⟩ := hmp.del hdn hs 0
  have ho2 := turned_only (ht2 b rfl)
  have hdb : d ≠ b := fun e => h.mapNe (by rw [hb, e])
  have hd2 := ho2.keep h.blk hdb
  refine ⟨b, w2, hb, hrun, (cell_at hd2 0).trans (by rw [← hb]; rfl), fun W2 hW => ?_⟩
  have hd3 := old_below hd2 hW
  have hfew : (delL (dir K.files) s.data.toList).length ≤ 1000 := by
    have h1 : (delL (dir K.files) s.data.toList).length ≤ (dir K.files).length := List.length_filter_le _ _
    have h2 : (dir K.files).length = K.files.length := by unfold dir; rw [List.length_map]
    have := h.files.few
    omega
  obtain ⟨w3, hrun3, hm3, ht3⟩ := (hm2.fr (S := fun _ => False) (.of hW) (fun _ _ => id)).put (del_nodup hdn _) hfew (s := t) (by unfold maxLen; omega) F.b
  have ho3 := turned_only ht3
  refine ⟨(cell_at hd3 0).trans (by rw [← hb]; rfl), w3, hrun3, h.renamed hm hb (by rw [Array.length_toList]; exact ht) hm3 ((ho2.trans (.of hW)).trans ho3)⟩

theorem rename_falls {w : World} {d b : Nat} {K : Dk} (s t : ByteArray) (HK : Hid (Calls Try.prog 31 #[.pointer (some ⟨d, 0, none⟩), .slice (some ⟨w.heap.size, 0, none⟩) 2 2] (w.alloc (.cells #[.string s, .string t] 9)) fun e w' => e = .returned (.int .i64 0) ∧ w.alloc (.cells #[.string s, .string t] 9) = w'))
    (H : Hid (Calls Try.prog 38 #[.pointer (some ⟨d, 0, none⟩), .string s] (w.alloc (.cells #[.string s, .string t] 9)) fun e w' => e = .returned (.tuple #[.pointer (some ⟨b, 0, none⟩), .int .i64 0]) ∧ Below w.heap.size w w'))
    (HC : Hid (∀ W, Below w.heap.size w W → Calls Try.prog 37 #[.pointer (some ⟨d, 0, none⟩)] W fun e w' => e = .returned (.int .i64 14) ∧ ∃ n K', Crashed W d K K.keep n K' w')) :
    Calls Try.prog 23 #[.pointer (some ⟨d, 0, none⟩), .string s, .string t] w (FallPost w d K) := by
  go_enter Try.func23, Try.ntmps23
  go_wp2_with (first
    | (go_at_call 31; (with_reducible refine HK.out.mono ?_); rintro e w1 ⟨rfl, rfl⟩)
    | (go_at_call 38; (with_reducible refine H.out.mono ?_); rintro e w1 ⟨rfl, hb⟩; have HB := Lib.hid hb; clear hb)
    | (go_at_call 37; (with_reducible refine (HC.out _ HB.out).mono ?_); rintro e w2 ⟨rfl, n, K', hcr⟩; have HR := Lib.hid hcr; clear hcr))
  go_ret
  exact ⟨_, n, K', rfl, HB.out, HR.out⟩
set_option maxRecDepth 100000 in
set_option maxHeartbeats 1000000 in
theorem rename_done {w : World} {d b : Nat} (s t : ByteArray) (hts : t.size ≤ 40) (P : World → Prop) (Q : World → Prop) (HK : Hid (Calls Try.prog 31 #[.pointer (some ⟨d, 0, none⟩), .slice (some ⟨w.heap.size, 0, none⟩) 2 2] (w.alloc (.cells #[.string s, .string t] 9)) fun e w' => e = .returned (.int .i64 0) ∧ w.alloc (.cells #[.string s, .string t] 9) = w'))
    (H : Hid (Calls Try.prog 38 #[.pointer (some ⟨d, 0, none⟩), .string s] (w.alloc (.cells #[.string s, .string t] 9)) fun e w' => e = .returned (.tuple #[.pointer (some ⟨b, 0, none⟩), .int .i64 0]) ∧ Below w.heap.size w w'))
    (HC : Hid (∀ W, Below w.heap.size w W → Calls Try.prog 37 #[.pointer (some ⟨d, 0, none⟩)] W fun e w' => e = .returned (.int .i64 0) ∧ P w'))
    (HP : Hid (∀ W, P W → ∃ m w2, W.cell? ⟨d, 0, none⟩ = some (.map (some m)) ∧ (Builtin.delete_ #[56, 9] 0 #[.map (some m), .string s]).run Try.prog W = .ok (.tuple #[]) w2 ∧ w2.cell? ⟨d, 0, none⟩ = some (.map (some m)) ∧
      ∀ W2, Below w2.heap.size w2 W2 → W2.cell? ⟨d, 0, none⟩ = some (.map (some m)) ∧ ∃ w3, (Instr.mapUpdate 56 (.map (some m)) (.string t) (.pointer (some ⟨b, 0, none⟩))).run Try.prog W2 = .ok () w3 ∧ Q w3)) :
    Calls Try.prog 23 #[.pointer (some ⟨d, 0, none⟩), .string s, .string t] w fun e w' => e = .returned (.int .i64 0) ∧ Q w' := by
  have HCl : Hid (∀ W, Calls Try.prog 36 #[.string t] W fun e w' => e = .returned (.string t) ∧ Below W.heap.size W w') := fun W => clone_any t W (by omega)
  go_enter Try.func23, Try.ntmps23
  go_wp2_with (first
    | (go_at_call 31; (with_reducible refine HK.out.mono ?_); rintro e w1 ⟨rfl, rfl⟩)
    | (go_at_call 38; (with_reducible refine H.out.mono ?_); rintro e w1 ⟨rfl, hb⟩; have HB := Lib.hid hb; clear hb)
    | (go_at_call 37; (with_reducible refine (HC.out _ HB.out).mono ?_); rintro e w2 ⟨rfl, hp⟩; obtain ⟨m, w4, c0, hdel, c1, hnx⟩ := HP.out _ hp; have HX := Lib.hid hnx; clear hnx hp))
  go_region_with ((go_at_call 36; (with_reducible refine (HCl.out _).mono ?_); rintro e w5 ⟨rfl, hb⟩; obtain ⟨c2, w6, hrun, hpost⟩ := HX.out w5 (thenBelow ((Below.refl _ _).drew) hb); have HPo := Lib.hid hpost; clear hpost))
  all_goals
    go_wp2
    go_ret
    exact ⟨rfl, HPo.out⟩

end Go.Proofs.Ytlgloikhdbmgdaa.P4
