/-
  Texts of the proof of SaidKeeps8, side by side: Dk25, Dk26, Dk27.
-/
import Derived.Test.YtbkngnjkaledlaaGreatMk18
/-
  Package disk: Write. (Disk, part 25.)
-/
namespace Go.Proofs.YtbkngnjkaledlaaGreat.P4
open Go Go.RowKit Go.Lib Go.Maps Go.ChangeMaps Go.MapKept Go.Proofs.YtbkngnjkaledlaaGreat.P3

/-- a write on one of the disk's files -/
theorem DiskAt.wrote {W w' : World} {d : Nat} {K : Dk} {n : List UInt8} {F : Fl} {sl : Value} {b i : Nat} {data : ByteArray} (h : DiskAt W d K) (hm : (n, F) ∈ K.files) (hlt : ∀ x ∈ allW K.files, x.turn < K.turn) (hcn : (allW K.files).length < K.turn) (hi : i ≤ F.secs.length) (hi2 : i ≤ 4000) (hd : data.size = 256)
    (hW : Wrote W w' F sl b K.turn i data) : Step W d K w' { K with files := (n, F.write sl b K.turn i data) :: restF K.files n } := by
  have hp := rest_perm h.files.names hm
  have hpa := allW_perm hp
  rw [allW_cons] at hpa
  have hl := hpa.length_eq
  rw [List.length_append] at hl
  have hmany := h.many.2
  have hFw : ∀ x ∈ F.ws, x ∈ allW K.files := fun x hx => allW_mem.2 ⟨_, hm, hx⟩
  have hwl : F.ws.length < 10000 := by omega
  have hok := Fl.write_ok F (h.files.ok _ hm) sl b K.turn i data hi hi2 hd (fun x hx => hlt x (hFw x hx)) hwl
  have htn := (hpa.map (·.turn)).nodup_iff.1 h.files.tnd
  rw [List.map_append] at htn
  have hws : (F.write sl b K.turn i data).ws = F.ws ++ [⟨b, K.turn, i, data, 0, lastAt F.ws i⟩] := rfl
  have hnew : ∀ x ∈ allW (restF K.files n), x.turn < K.turn := fun x hx => hlt x (hpa.mem_iff.2 (List.mem_append_right _ hx))
  have h2 := h.file hm hW.at' hW.fr rfl (fun k hk => ?_) hok (fun x hx => ?_) (fun x hx => ?_) ?_ ?_
  · exact ⟨h2.1, h2.2, hW.fr.mono (fun k _ hk => .inr (.inr (.inl ⟨_, hm, hk⟩)))⟩
  · rcases hk with hk | hk | ⟨x, hx, rfl⟩
    · exact .inl (.inl hk)
    · exact (hW.row k hk).imp (fun e => .inr (.inl e)) id
    · rw [hws] at hx
      rcases List.mem_append.1 hx with hx | hx
      · exact .inl (.inr (.inr ⟨x, hx, rfl⟩))
      · obtain rfl := List.mem_singleton.1 hx
        exact .inr hW.new
  · rw [hws] at hx
    rcases List.mem_append.1 hx with hx | hx
    · exact h.still x (hFw x hx)
    · obtain rfl := List.mem_singleton.1 hx
      rfl
  · rw [hws] at hx
    rcases List.mem_append.1 hx with hx | hx
    · exact h.turns x (hFw x hx)
    · obtain rfl := List.mem_singleton.1 hx
      exact Nat.le_refl _
  · rw [hws, List.map_append, List.append_assoc]
    rw [List.nodup_append] at htn ⊢
    refine ⟨htn.1, ?_, fun a ha c hc => ?_⟩
    · show (K.turn :: (allW (restF K.files n)).map (·.turn)).Nodup
      rw [List.nodup_cons]
      refine ⟨fun hx => ?_, htn.2.1⟩
      obtain ⟨x, hx, e⟩ := List.mem_map.1 hx
      have := hnew x hx
      omega
    · rcases List.mem_append.1 hc with hc | hc
      · obtain ⟨x, hx, rfl⟩ := List.mem_map.1 ha
        have := hlt x (hFw x hx)
        simp at hc
        omega
      · exact htn.2.2 a ha c hc
  · rw [hws, List.length_append]
    simp
    omega

/-- a new file is there -/
theorem DiskAt.made {w w' : World} {d b b2 : Nat} {K : Dk} {n : List UInt8} (h : DiskAt w d K) (hg : getF K.files n = none) (hlen : K.files.length < 60) (hn : n.length ≤ 40) (h1 : w.heap.size ≤ b) (h2 : w'.heap[b]? = some (.cells freshCells 148 (0, 0))) (h3 : MapAt w' (some b2) (putL (dir K.files) n b)) (h4 : K.m = some b2 ∨ K.m = none ∧ w.heap.size ≤ b2)
    (h5 : Fr (fun k => k = d ∨ K.m = some k) w w') (h6 : w'.heap[d]? = some (.cells (K.cells.setIfInBounds 0 (.map (some b2))) 73 (0, 0))) : Step w d K w' { K with m := some b2, files := (n, Fl.fresh b) :: K.files } := by
  have hno : ∀ p ∈ K.files, p.1 ≠ n := by
    intro p hp e
    have := getF_some h.files.names (n := n) (F := p.2) (by rw [← e]; exact hp)
    rw [hg] at this; cases this
  have hmf : ∀ p ∈ K.files, ∀ k, p.2.foot k → ¬ (k = d ∨ K.m = some k) := by
    rintro p hp k hk (rfl | e)
    · exact h.fileNe p hp hk
    · obtain ⟨c, t, h7, _⟩ := (h.files.at' p hp).kinds k hk
      rcases h.map with ⟨h8, _⟩ | ⟨b', D, h8, ⟨es, cl, h9, _⟩, _⟩
      · rw [h8] at e; cases e
      · rw [h8] at e
        obtain rfl : b' = k := by simpa using e
        rw [h9] at h7; cases h7
  have hpl : (putL (dir K.files) n b).Perm (dir ((n, Fl.fresh b) :: K.files)) := by
    unfold putL
    have e : (dir K.files).filter (fun p => p.1 != n) = dir K.files := List.filter_eq_self.2 (fun p hp => by
      obtain ⟨q, hq, rfl⟩ := List.mem_map.1 hp
      have := hno q hq
      simpa using this)
    rw [e]
    exact List.perm_append_comm
  have hfoot : ∀ k, (Fl.fresh b).foot k → k = b := by
    rintro k (hk | hk | ⟨x, hx, _⟩)
    · exact hk
    · cases hk
    · simp [Fl.fresh] at hx
  have hmany := h.many
  refine ⟨⟨h6, owns_fr h.keep h5 (fun g hg hk => h.kvfar g hg (hk.elim .inl (fun e => .inr (.inl e)))), looks_perm h3 hpl, ⟨?_, ?_, ?_, ?_, ?_, ?_, ?_⟩, h.still, h.turns, hmany⟩, ?_, h5.mono (fun k _ hk => hk.elim .inl (fun e => .inr (.inl e)))⟩
  · intro p hp
    rcases List.mem_cons.1 hp with rfl | hp
    · exact fresh_at h2
    · exact (h.files.at' p hp).fr h5 (hmf p hp)
  · intro p hp
    rcases List.mem_cons.1 hp with rfl | hp
    · exact fresh_ok b
    · exact h.files.ok p hp
  · show (n :: K.files.map (·.1)).Nodup
    rw [List.nodup_cons]
    refine ⟨fun hx => ?_, h.files.names⟩
    obtain ⟨p, hp, e⟩ := List.mem_map.1 hx
    exact hno p hp e
  · rw [List.pairwise_cons]
    refine ⟨fun p hp k hk hk2 => ?_, h.files.apart⟩
    have := (h.files.at' p hp).lt k hk2
    have := hfoot k hk
    omega
  · show K.files.length + 1 ≤ 60
    omega
  · intro p hp
    rcases List.mem_cons.1 hp with rfl | hp
    · exact hn
    · exact h.files.long p hp
  · exact h.files.tnd
  · rintro k (rfl | hk | ⟨p, hp, hk⟩ | hk)
    · exact .inl (.inl rfl)
    · have hk2 : b2 = k := by simpa using hk
      rcases h4 with e | ⟨_, e⟩
      · exact .inl (.inr (.inl (by rw [e, hk2])))
      · exact .inr (by omega)
    · rcases List.mem_cons.1 hp with rfl | hp
      · have := hfoot k hk
        exact .inr (by omega)
      · exact .inl (.inr (.inr (.inl ⟨p, hp, hk⟩)))
    · exact .inl (.inr (.inr (.inr hk)))

end Go.Proofs.YtbkngnjkaledlaaGreat.P4

/-
  Package disk: Write: the walk. (Disk, part 26.)
-/
namespace Go.Proofs.YtbkngnjkaledlaaGreat.P4
open Go Go.RowKit Go.Lib Go.Maps Go.ChangeMaps Go.MapKept Go.Proofs.YtbkngnjkaledlaaGreat.P3

def sizeN (L : Files) (n : List UInt8) : Nat := match getF L n with | none => 0 | some F => F.secs.length
/-- what stands against a Write -/
def writeE (K : Dk) (s : ByteArray) (i : Int) (dsz : Nat) : Int :=
  if errn K.on s.size ≠ 0 then errn K.on s.size
  else if dsz ≠ 256 then 1
  else if i < 0 ∨ (sizeN K.files s.data.toList : Int) < i ∨ 4000 < i then 15
  else if i = (sizeN K.files s.data.toList : Int) ∧ fullOf K = true then 20
  else if getF K.files s.data.toList = none ∧ 60 ≤ K.files.length then 20
  else 0
/-- the disk behind a Write, ahead of the count -/
def Written (K : Dk) (n : List UInt8) (i : Nat) (data : ByteArray) (K1 : Dk) : Prop :=
  ∃ m sl b F, (getF K.files n = some F ∨ getF K.files n = none ∧ ∃ b0, F = Fl.fresh b0) ∧ K1 = { K with m := m, turn := K.turn + 1, files := (n, F.write sl b (K.turn + 1) i data) :: restF K.files n }
def WritePost (w : World) (d : Nat) (K : Dk) (s : ByteArray) (i : Int) (data : ByteArray) (e : Ending) (w' : World) : Prop :=
  (writeE K s i data.size ≠ 0 ∧ e = .returned (.int .i64 (writeE K s i data.size)) ∧ Below w.heap.size w w') ∨
  (writeE K s i data.size = 0 ∧ ∃ w1 K1, Step w d K w1 K1 ∧ Written K s.data.toList i.toNat data K1 ∧ CountPost w1 d K1 e w')

set_option maxRecDepth 100000 in
set_option maxHeartbeats 2000000 in
theorem write_err1 {w : World} {d : Nat} {K : Dk} (h : DiskAt w d K) (s : ByteArray) (i : Int) (data : ByteArray) (he : errn K.on s.size ≠ 0) :
    Calls Tryz.prog 41 #[.pointer (some ⟨d, 0, none⟩), .string s, .int .i64 i, .string data] w fun e w' => e = .returned (.int .i64 (errn K.on s.size)) ∧ Below w.heap.size w w' := by
  have hd := lt_of_block h.blk
  have HC : Hid (Calls Tryz.prog 92 #[.pointer (some ⟨d, 0, none⟩), .slice (some ⟨w.heap.size, 0, none⟩) 1 1] (w.alloc (.cells #[.string s] 9)) fun e w' => e = .returned (.int .i64 (errn K.on s.size)) ∧ w.alloc (.cells #[.string s] 9) = w') :=
    check1 _ d w.heap.size s K.on (cell_at (old_alloc h.blk _) 1) (by rw [cell_at (new_at w _ _)]; rfl)
  have hne : (errn K.on s.size != 0) = true := by simpa using he
  generalize errn K.on s.size = z at *
  clear h he
  go_enter Tryz.func41, Tryz.ntmps41
  go_wp2_with (go_at_call 92; (with_reducible refine HC.out.mono ?_); rintro e w' ⟨rfl, rfl⟩)
  go_ret
  exact ⟨rfl, below_new _ _⟩

/-- what the walk needs behind the check -/
structure WFacts (w : World) (d : Nat) (K : Dk) (s : ByteArray) (p : Option Addr) (z : Nat) : Prop where
  check : Calls Tryz.prog 92 #[.pointer (some ⟨d, 0, none⟩), .slice (some ⟨w.heap.size, 0, none⟩) 1 1] (w.alloc (.cells #[.string s] 9)) fun e w' => e = .returned (.int .i64 0) ∧ w.alloc (.cells #[.string s] 9) = w'
  c0 : (w.alloc (.cells #[.string s] 9)).cell? ⟨d, 0, none⟩ = some (.map K.m)
  look : (Instr.lookup 71 (.map K.m) (.string s) false).run Tryz.prog (w.alloc (.cells #[.string s] 9)) = .ok (.pointer p) (w.alloc (.cells #[.string s] 9))
  size : Calls Tryz.prog 93 #[.pointer p] (w.alloc (.cells #[.string s] 9)) fun e w' => e = .returned (.int .i64 z) ∧ w.alloc (.cells #[.string s] 9) = w'
theorem DiskAt.wfacts {w : World} {d : Nat} {K : Dk} (h : DiskAt w d K) (s : ByteArray) (he : errn K.on s.size = 0) (hs : s.size ≤ maxLen) {p : Option Addr} (hp : ptr ((getF K.files s.data.toList).map (·.b)) = .pointer p) : WFacts w d K s p (sizeN K.files s.data.toList) := by
  have hb := below_new w (.cells #[.string s] 9)
  have h2 := h.below hb
  refine ⟨?_, cell_at h2.blk 0, ?_, ?_⟩
  · have := check1 (w.alloc (.cells #[.string s] 9)) d w.heap.size s K.on (cell_at h2.blk 1) (by rw [cell_at (new_at w _ _)]; rfl)
    rw [he] at this
    exact this
  · rw [← hp, ← lk_dir]
    exact h2.map.look (by rw [dir_names]; exact h.files.names) hs
  · rw [← hp]
    exact size_file h2.files.at' s.data.toList

set_option maxRecDepth 100000 in
set_option maxHeartbeats 2000000 in
theorem write_err2 {w : World} {d : Nat} {K : Dk} (s : ByteArray) (i : Int) (data : ByteArray) {p : Option Addr} {z : Nat} (h : WFacts w d K s p z) (hd : data.size ≠ 256) :
    Calls Tryz.prog 41 #[.pointer (some ⟨d, 0, none⟩), .string s, .int .i64 i, .string data] w fun e w' => e = .returned (.int .i64 1) ∧ Below w.heap.size w w' := by
  have HC := Lib.hid h.check
  have HS := Lib.hid h.size
  have c0 := h.c0
  have hl := h.look
  have k1 : ((data.size : Int) != 256) = true := by simp; omega
  clear h
  go_enter Tryz.func41, Tryz.ntmps41
  go_wp2_with (first
    | (go_at_call 92; (with_reducible refine HC.out.mono ?_); rintro e w' ⟨rfl, rfl⟩)
    | (go_at_call 93; (with_reducible refine HS.out.mono ?_); rintro e w' ⟨rfl, rfl⟩))
  go_ret
  exact ⟨rfl, below_new _ _⟩

set_option maxRecDepth 100000 in
set_option maxHeartbeats 2000000 in
theorem write_err3 {w : World} {d : Nat} {K : Dk} (s : ByteArray) (i : Int) (data : ByteArray) {p : Option Addr} {z : Nat} (h : WFacts w d K s p z) (hd : data.size = 256) (hi : i < 0 ∨ (z : Int) < i ∨ 4000 < i) :
    Calls Tryz.prog 41 #[.pointer (some ⟨d, 0, none⟩), .string s, .int .i64 i, .string data] w fun e w' => e = .returned (.int .i64 15) ∧ Below w.heap.size w w' := by
  have HC := Lib.hid h.check
  have HS := Lib.hid h.size
  have c0 := h.c0
  have hl := h.look
  have k1 : ((data.size : Int) != 256) = false := by simp; omega
  clear h hd
  by_cases h1 : i < 0
  · have q1 : decide (i < 0) = true := decide_eq_true h1
    go_enter Tryz.func41, Tryz.ntmps41
    go_wp2_with (first
      | (go_at_call 92; (with_reducible refine HC.out.mono ?_); rintro e w' ⟨rfl, rfl⟩)
      | (go_at_call 93; (with_reducible refine HS.out.mono ?_); rintro e w' ⟨rfl, rfl⟩))
    go_ret
    exact ⟨rfl, below_new _ _⟩
  · have q1 : decide (i < 0) = false := decide_eq_false h1
    by_cases h2 : (z : Int) < i
    · have q2 : decide ((z : Int) < i) = true := decide_eq_true h2
      go_enter Tryz.func41, Tryz.ntmps41
      go_wp2_with (first
        | (go_at_call 92; (with_reducible refine HC.out.mono ?_); rintro e w' ⟨rfl, rfl⟩)
        | (go_at_call 93; (with_reducible refine HS.out.mono ?_); rintro e w' ⟨rfl, rfl⟩))
      go_ret
      exact ⟨rfl, below_new _ _⟩
    · have q2 : decide ((z : Int) < i) = false := decide_eq_false h2
      have h3 : 4000 < i := by omega
      have q3 : decide (4000 < i) = true := decide_eq_true h3
      go_enter Tryz.func41, Tryz.ntmps41
      go_wp2_with (first
        | (go_at_call 92; (with_reducible refine HC.out.mono ?_); rintro e w' ⟨rfl, rfl⟩)
        | (go_at_call 93; (with_reducible refine HS.out.mono ?_); rintro e w' ⟨rfl, rfl⟩))
      go_ret
      exact ⟨rfl, below_new _ _⟩

end Go.Proofs.YtbkngnjkaledlaaGreat.P4

/-
  Package disk: Write: no room; a sector written over. (Disk, part 27.)
-/
namespace Go.Proofs.YtbkngnjkaledlaaGreat.P4
open Go Go.RowKit Go.Lib Go.Maps Go.ChangeMaps Go.MapKept Go.Proofs.YtbkngnjkaledlaaGreat.P3

/-- what full tells, behind the check -/
theorem DiskAt.wfull {w : World} {d : Nat} {K : Dk} (h : DiskAt w d K) (s : ByteArray) : Calls Tryz.prog 94 #[.pointer (some ⟨d, 0, none⟩)] (w.alloc (.cells #[.string s] 9)) fun e w' => e = .returned (.bool (fullOf K)) ∧ Below w.heap.size w w' :=
  (h.below (below_new w _)).full.mono fun _ _ ⟨h1, h2⟩ => ⟨h1, thenBelow (below_new w _) h2⟩

set_option maxRecDepth 100000 in
set_option maxHeartbeats 2000000 in
theorem write_err4 {w : World} {d : Nat} {K : Dk} (hD : DiskAt w d K) (s : ByteArray) (data : ByteArray) {p : Option Addr} {z : Nat} (h : WFacts w d K s p z) (hd : data.size = 256) (hz : z ≤ 4000) (hf : fullOf K = true) :
    Calls Tryz.prog 41 #[.pointer (some ⟨d, 0, none⟩), .string s, .int .i64 z, .string data] w fun e w' => e = .returned (.int .i64 20) ∧ Below w.heap.size w w' := by
  have HC := Lib.hid h.check
  have HS := Lib.hid h.size
  have c0 := h.c0
  have hl := h.look
  have HF := hD.wfull s
  rw [hf] at HF
  have HF := Lib.hid HF
  have k1 : ((data.size : Int) != 256) = false := by simp; omega
  have b1 : (0 : Int) ≤ (z : Int) := by omega
  have b2 : (z : Int) ≤ 4000 := by omega
  clear h hd hD hf
  go_enter Tryz.func41, Tryz.ntmps41
  go_wp2_with (first
    | (go_at_call 92; (with_reducible refine HC.out.mono ?_); rintro e w' ⟨rfl, rfl⟩)
    | (go_at_call 93; (with_reducible refine HS.out.mono ?_); rintro e w' ⟨rfl, rfl⟩)
    | (go_at_call 94; (with_reducible refine HF.out.mono ?_); rintro e w' ⟨rfl, hb⟩; have HB := Lib.hid hb; clear hb))
  go_ret
  exact ⟨rfl, HB.out⟩

set_option maxRecDepth 100000 in
set_option maxHeartbeats 2000000 in
theorem write_err5 {w : World} {d : Nat} {K : Dk} (hD : DiskAt w d K) (s : ByteArray) (data : ByteArray) (h : WFacts w d K s none 0) (hd : data.size = 256) (hf : fullOf K = false) (hl60 : 60 ≤ K.files.length) :
    Calls Tryz.prog 41 #[.pointer (some ⟨d, 0, none⟩), .string s, .int .i64 0, .string data] w fun e w' => e = .returned (.int .i64 20) ∧ Below w.heap.size w w' := by
  have HC := Lib.hid h.check
  have HS := Lib.hid h.size
  have c0 := h.c0
  have hl := h.look
  have HF := hD.wfull s
  rw [hf] at HF
  have HF := Lib.hid HF
  have HL : Hid (∀ W, Below w.heap.size w W → W.cell? ⟨d, 0, none⟩ = some (.map K.m) ∧ ∀ ty, (Builtin.len_ #[71] ty #[.map K.m]).run Tryz.prog W = .ok (.int .i64 (dir K.files).length) W) := fun W hW => ⟨cell_at (hD.below hW).blk 0, fun ty => (hD.below hW).map.len ty⟩
  obtain ⟨nl, hnl⟩ : ∃ nl, nl = (dir K.files).length := ⟨_, rfl⟩
  rw [← hnl] at HL
  have b60 : (60 : Int) ≤ (nl : Int) := by rw [hnl]; simp [dir]; omega
  have k1 : ((data.size : Int) != 256) = false := by simp; omega
  clear h hd hD hf hnl hl60
  go_enter Tryz.func41, Tryz.ntmps41
  go_wp2_with (first
    | (go_at_call 92; (with_reducible refine HC.out.mono ?_); rintro e w' ⟨rfl, rfl⟩)
    | (go_at_call 93; (with_reducible refine HS.out.mono ?_); rintro e w' ⟨rfl, rfl⟩)
    | (go_at_call 94; (with_reducible refine HF.out.mono ?_); rintro e w' ⟨rfl, hb⟩; obtain ⟨q0, ql⟩ := HL.out w' hb; have HB := Lib.hid hb; clear hb))
  go_ret
  exact ⟨rfl, HB.out⟩

/-- the disk behind the turn, the write and the count -/
def OkPost (w : World) (d : Nat) (K : Dk) (n : List UInt8) (i : Nat) (data : ByteArray) (e : Ending) (w' : World) : Prop := ∃ w1 K1, Step w d K w1 K1 ∧ Written K n i data K1 ∧ CountPost w1 d K1 e w'

/-- what the end of Write needs: from a disk with that file on -/
structure WEnd (w : World) (d : Nat) (K : Dk) (n : List UInt8) (i : Nat) (data : ByteArray) (fb : Nat) (W0 : World) : Prop where
  c3 : W0.cell? ⟨d, 3, none⟩ = some (.int .i64 K.turn)
  f3 : W0.frozen? ⟨d, 3, none⟩ = false
  lt : d < W0.heap.size
  write : ∀ W, Below (W0.setCell ⟨d, 3, none⟩ (.int .i64 ((K.turn : Int) + 1))).heap.size (W0.setCell ⟨d, 3, none⟩ (.int .i64 ((K.turn : Int) + 1))) W →
    Calls Tryz.prog 96 #[.pointer (some ⟨fb, 0, none⟩), .int .i64 ((K.turn : Int) + 1), .int .i64 i, .string data] W fun e w' => e = .returned (.tuple #[]) ∧ w'.cell? ⟨d, 3, none⟩ = some (.int .i64 ((K.turn : Int) + 1)) ∧ Calls Tryz.prog 97 #[.pointer (some ⟨d, 0, none⟩)] w' (OkPost w d K n i data)
theorem DiskAt.wend {w W0 : World} {d : Nat} {K K0 : Dk} {n : List UInt8} {i : Nat} {data : ByteArray} {F : Fl} (hS : Step w d K W0 K0) (hK0 : ∃ m L, K0 = { K with m := m, files := L } ∧ restF L n = restF K.files n) (hm : (n, F) ∈ K0.files) (hF : getF K.files n = some F ∨ getF K.files n = none ∧ ∃ b0, F = Fl.fresh b0)
    (hi : i ≤ F.secs.length) (hi2 : i ≤ 4000) (hd : data.size = 256) (hon : K.on = true) (hl : K.left ≤ 9223372036854775807) (ht : K.turn < 9000) : WEnd w d K n i data F.b W0 := by
  obtain ⟨m, L, rfl, hrs⟩ := hK0
  have h0 := hS.at'
  refine ⟨cell_at h0.blk 3, free_at h0.blk 3, lt_of_block h0.blk, fun W hW => ?_⟩
  have h1 : Step W0 d { K with m := m, files := L } (W0.setCell ⟨d, 3, none⟩ (.int .i64 ((K.turn : Int) + 1))) { K with m := m, files := L, turn := K.turn + 1 } :=
    .own h0 ((Only.refl d W0).setCell 3 _) (set_at h0.blk 3 _) rfl rfl ⟨rfl, rfl⟩ (Nat.le_succ _) ht
  have h2 := h1.at'.below hW
  have hlt : ∀ x ∈ allW L, x.turn < K.turn + 1 := fun x hx => Nat.lt_succ_of_le (h0.turns x hx)
  have hcn : (allW L).length < K.turn + 1 := Nat.lt_succ_of_le h0.many.1
  have hFw : F.ws.length < 10000 := by
    have h5 : F.ws.length ≤ (allW L).length := by
      have := (allW_perm (rest_perm h0.files.names hm)).length_eq
      rw [allW_cons, List.length_append] at this
      have h6 : (allW L).length = F.ws.length + (allW (restF L n)).length := this
      omega
    omega
  refine (FileAt.write (h2.files.at' _ hm) (h2.files.ok _ hm) (K.turn + 1) i data hi hFw).mono ?_
  rintro e w' ⟨rfl, sl, b, hW2⟩
  have h3 := h2.wrote (K := { K with m := m, files := L, turn := K.turn + 1 }) hm hlt hcn hi hi2 hd hW2
  have h4 : Step w d K w' { K with m := m, turn := K.turn + 1, files := (n, F.write sl b (K.turn + 1) i data) :: restF L n } := ((hS.trans h1).trans (.below h1.at' hW)).trans h3
  refine ⟨rfl, cell_at h4.at'.blk 3, (h4.at'.count hon hl).mono fun e w' hc => ⟨_, _, h4, ⟨m, sl, b, F, hF, by rw [hrs]⟩, hc⟩⟩

end Go.Proofs.YtbkngnjkaledlaaGreat.P4
