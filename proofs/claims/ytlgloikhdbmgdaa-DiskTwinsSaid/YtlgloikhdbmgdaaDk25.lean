/-
  Package disk: Write. (Disk, part 25.)
-/
import Derived.Test.YtlgloikhdbmgdaaDk24
namespace Go.Proofs.Ytlgloikhdbmgdaa.P4
open Go Go.RowKit Go.Lib Go.Maps Go.ChangeMaps Go.MapKept Go.Proofs.Ytlgloikhdbmgdaa.P3

/-- a write on one of the disk's files -/
theorem DiskAt.wrote {W w' : World} {d : Nat} {K : Dk} {n : List UInt8} {F : Fl} {sl : Value} {b i : Nat} {data : ByteArray} (h : DiskAt W d K) (hm : (n, F) ∈ K.files) (hlt : ∀ x ∈ allW K.files, x.turn < K.turn) (hcn : (allW K.files).length < K.turn) (hi : i ≤ F.secs.length) (hi2 : i ≤ 4000) (hd : data.size = 256)
    (hW : Wrote W w' F sl b K.turn i data) : Step W d K w' { K with files := (n, F.write sl b K.turn i data) :: restF K.files n } := by
  have hp := rest_perm h.files.names hm
  have hpa := allW_perm hp
  rw [allW_cons] at hpa
  have hl := hpa.length_eq
  rw [List.length_append] at hl
  have hmany := h.many.2
  have hFw : ∀ x ∈ F.ws, x ∈ allW K.files := fun x hx => allW_mem.2 ⟨_, hm, hx⟩
  have hwl : F.ws.length < 10000 := by omega
  have hok := Fl.write_ok F (h.files.ok _ hm) sl b K.turn i data hi hi2 hd (fun x hx => hlt x (hFw x hx)) hwl
  have htn := (hpa.map (·.turn)).nodup_iff.1 h.files.tnd
  rw [List.map_append] at htn
  have hws : (F.write sl b K.turn i data).ws = F.ws ++ [⟨b, K.turn, i, data, 0, lastAt F.ws i⟩] := rfl
  have hnew : ∀ x ∈ allW (restF K.files n), x.turn < K.turn := fun x hx => hlt x (hpa.mem_iff.2 (List.mem_append_right _ hx))
  have h2 := h.file hm hW.at' hW.fr rfl (fun k hk => ?_) hok (fun x hx => ?_) (fun x hx => ?_) ?_ ?_
  · exact ⟨h2.1, h2.2, hW.fr.mono (fun k _ hk => .inr (.inr (.inl ⟨_, hm, hk⟩)))⟩
  · rcases hk with hk | hk | ⟨x, hx, rfl⟩
    · exact .inl (.inl hk)
    · exact (hW.row k hk).imp (fun e => .inr (.inl e)) id
    · rw [hws] at hx
      rcases List.mem_append.1 hx with hx | hx
      · exact .inl (.inr (.inr ⟨x, hx, rfl⟩))
      · obtain rfl := List.mem_singleton.1 hx
        exact .inr hW.new
  · rw [hws] at hx
    rcases List.mem_append.1 hx with hx | hx
    · exact h.still x (hFw x hx)
    · obtain rfl := List.mem_singleton.1 hx
      rfl
  · rw [hws] at hx
    rcases List.mem_append.1 hx with hx | hx
    · exact h.turns x (hFw x hx)
    · obtain rfl := List.mem_singleton.1 hx
      exact Nat.le_refl _
  · rw [hws, List.map_append, List.append_assoc]
    rw [List.nodup_append] at htn ⊢
    refine ⟨htn.1, ?_, fun a ha c hc => ?_⟩
    · show (K.turn :: (allW (restF K.files n)).map (·.turn)).Nodup
      rw [List.nodup_cons]
      refine ⟨fun hx => ?_, htn.2.1⟩
      obtain ⟨x, hx, e⟩ := List.mem_map.1 hx
      have := hnew x hx
      omega
    · rcases List.mem_append.1 hc with hc | hc
      · obtain ⟨x, hx, rfl⟩ := List.mem_map.1 ha
        have := hlt x (hFw x hx)
        simp at hc
        omega
      · exact htn.2.2 a ha c hc
  · rw [hws, List.length_append]
    simp
    omega

/-- a new file is there -/
theorem DiskAt.made {w w' : World} {d b b2 : Nat} {K : Dk} {n : List UInt8} (h : DiskAt w d K) (hg : getF K.files n = none) (hlen : K.files.length < 60) (hn : n.length ≤ 40) (h1 : w.heap.size ≤ b) (h2 : w'.heap[b]? = some (.cells freshCells 78 (0, 0))) (h3 : MapAt w' (some b2) (putL (dir K.files) n b)) (h4 : K.m = some b2 ∨ K.m = none ∧ w.heap.size ≤ b2)
    (h5 : Fr (fun k => k = d ∨ K.m = some k) w w') (h6 : w'.heap[d]? = some (.cells (K.cells.setIfInBounds 0 (.map (some b2))) 58 (0, 0))) : Step w d K w' { K with m := some b2, files := (n, Fl.fresh b) :: K.files } := by
  have hno : ∀ p ∈ K.files, p.1 ≠ n := by
    intro p hp e
    have := getF_some h.files.names (n := n) (F := p.2) (by rw [← e]; exact hp)
    rw [hg] at this; cases this
  have hmf : ∀ p ∈ K.files, ∀ k, p.2.foot k → ¬ (k = d ∨ K.m = some k) := by
    rintro p hp k hk (rfl | e)
    · exact h.fileNe p hp hk
    · obtain ⟨c, t, h7, _⟩ := (h.files.at' p hp).kinds k hk
      rcases h.map with ⟨h8, _⟩ | ⟨b', D, h8, ⟨es, cl, h9, _⟩, _⟩
      · rw [h8] at e; cases e
      · rw [h8] at e
        obtain rfl : b' = k := by simpa using e
        rw [h9] at h7; cases h7
  have hpl : (putL (dir K.files) n b).Perm (dir ((n, Fl.fresh b) :: K.files)) := by
    unfold putL
    have e : (dir K.files).filter (fun p => p.1 != n) = dir K.files := List.filter_eq_self.2 (fun p hp => by
      obtain ⟨q, hq, rfl⟩ := List.mem_map.1 hp
      have := hno q hq
      simpa using this)
    rw [e]
    exact List.perm_append_comm
  have hfoot : ∀ k, (Fl.fresh b).foot k → k = b := by
    rintro k (hk | hk | ⟨x, hx, _⟩)
    · exact hk
    · cases hk
    · simp [Fl.fresh] at hx
  have hmany := h.many
  refine ⟨⟨h6, owns_fr h.keep h5 (fun g hg hk => h.kvfar g hg (hk.elim .inl (fun e => .inr (.inl e)))), looks_perm h3 hpl, ⟨?_, ?_, ?_, ?_, ?_, ?_, ?_⟩, h.still, h.turns, hmany⟩, ?_, h5.mono (fun k _ hk => hk.elim .inl (fun e => .inr (.inl e)))⟩
  · intro p hp
    rcases List.mem_cons.1 hp with rfl | hp
    · exact fresh_at h2
    · exact (h.files.at' p hp).fr h5 (hmf p hp)
  · intro p hp
    rcases List.mem_cons.1 hp with rfl | hp
    · exact fresh_ok b
    · exact h.files.ok p hp
  · show (n :: K.files.map (·.1)).Nodup
    rw [List.nodup_cons]
    refine ⟨fun hx => ?_, h.files.names⟩
    obtain ⟨p, hp, e⟩ := List.mem_map.1 hx
    exact hno p hp e
  · rw [List.pairwise_cons]
    refine ⟨fun p hp k hk hk2 => ?_, h.files.apart⟩
    have := (h.files.at' p hp).lt k hk2
    have := hfoot k hk
    omega
  · show K.files.length + 1 ≤ 60
    omega
  · intro p hp
    rcases List.mem_cons.1 hp with rfl | hp
    · exact hn
    · exact h.files.long p hp
  · exact h.files.tnd
  · rintro k (rfl | hk | ⟨p, hp, hk⟩ | hk)
    · exact .inl (.inl rfl)
    · have hk2 : b2 = k := by simpa using hk
      rcases h4 with e | ⟨_, e⟩
      · exact .inl (.inr (.inl (by rw [e, hk2])))
      · exact .inr (by omega)
    · rcases List.mem_cons.1 hp with rfl | hp
      · have := hfoot k hk
        exact .inr (by omega)
      · exact .inl (.inr (.inr (.inl ⟨p, hp, hk⟩)))
    · exact .inl (.inr (.inr (.inr hk)))

end Go.Proofs.Ytlgloikhdbmgdaa.P4
