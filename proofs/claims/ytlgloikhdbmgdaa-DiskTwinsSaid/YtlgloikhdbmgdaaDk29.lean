/-
  Package disk: Write, whatever is handed in; New, Read, Restore. (Disk, part 29.)
-/
import Derived.Test.YtlgloikhdbmgdaaDk28
namespace Go.Proofs.Ytlgloikhdbmgdaa.P4
open Go Go.RowKit Go.Lib Go.Maps Go.ChangeMaps Go.MapKept Go.Proofs.Ytlgloikhdbmgdaa.P3

theorem DiskAt.create {w : World} {d : Nat} {K : Dk} (h : DiskAt w d K) (s : ByteArray) (hg : getF K.files s.data.toList = none) (hlen : K.files.length < 60) (hs : s.size ≤ 40) :
    Calls Try.prog 34 #[.pointer (some ⟨d, 0, none⟩), .string s] w fun e w' => ∃ b m, e = .returned (.pointer (some ⟨b, 0, none⟩)) ∧ Step w d K w' { K with m := m, files := (s.data.toList, Fl.fresh b) :: K.files } := by
  have hn : (s.data.toList).length ≤ 40 := by rw [← Lib.size_eq]; exact hs
  have hpost : ∀ (m : Option Nat) (e : Ending) (w' : World), K.m = m → MadePost w d (dir K.files) s.data.toList m e w' → ∃ b m, e = .returned (.pointer (some ⟨b, 0, none⟩)) ∧ Step w d K w' { K with m := m, files := (s.data.toList, Fl.fresh b) :: K.files } := by
    rintro m e w' hm ⟨b, b2, rfl, h1, h2, h3, h4, h5, h6, h7⟩
    exact ⟨b, some b2, rfl, h.made hg hlen hn h1 h2 h3 (by rw [hm]; exact h4) (by rw [hm]; exact h6) (h7 _ h.blk)⟩
  cases hm : K.m with
  | some b =>
    have hmap := h.map
    rw [hm] at hmap
    exact (create_some w d b s (dir K.files) h.blk (by show some (Value.map K.m) = _; rw [hm]) hmap (by rw [dir_names]; exact h.files.names) (by have := h.files.few; simp [dir]; omega) (by omega)).mono fun e w' hp => hpost _ e w' hm hp
  | none =>
    have hL : dir K.files = [] := by
      have hmap := h.map
      rw [hm] at hmap
      rcases hmap with ⟨_, h2⟩ | ⟨b, D, h2, _⟩
      · exact h2
      · cases h2
    refine (create_none w d s h.blk (by show some (Value.map K.m) = _; rw [hm]) (by omega)).mono fun e w' hp => hpost none e w' hm ?_
    rw [hL]
    exact hp
theorem errn_size {on : Bool} {n : Nat} (h : errn on n = 0) : 1 ≤ n ∧ n ≤ 40 := by
  have hon := errn_on h
  subst hon
  unfold errn at h
  rw [if_neg (by decide)] at h
  by_cases hc : n < 1 ∨ 40 < n
  · rw [if_pos hc] at h; exact absurd h (by decide)
  · omega

theorem DiskAt.write {w : World} {d : Nat} {K : Dk} (h : DiskAt w d K) (s : ByteArray) (i : Int) (data : ByteArray) (hs : s.size ≤ maxLen) (hl : K.left ≤ 9223372036854775807) (ht : K.turn < 9000) :
    Calls Try.prog 10 #[.pointer (some ⟨d, 0, none⟩), .string s, .int .i64 i, .string data] w (WritePost w d K s i data) := by
  by_cases he : errn K.on s.size ≠ 0
  · have e : writeE K s i data.size = errn K.on s.size := by unfold writeE; rw [if_pos he]
    exact (write_err1 h s i data he).mono fun e' w' ⟨h1, h2⟩ => .inl ⟨by rw [e]; exact he, by rw [e]; exact h1, h2⟩
  have he : errn K.on s.size = 0 := Decidable.not_not.1 he
  have hon := errn_on he
  obtain ⟨hs1, hs2⟩ := errn_size he
  obtain ⟨p, hp⟩ := ptr_shape ((getF K.files s.data.toList).map (·.b))
  have hW := h.wfacts s he hs hp
  by_cases hd : data.size ≠ 256
  · have e : writeE K s i data.size = 1 := by unfold writeE; rw [if_neg (by simpa using he), if_pos hd]
    exact (write_err2 s i data hW hd).mono fun e' w' ⟨h1, h2⟩ => .inl ⟨by rw [e]; decide, by rw [e]; exact h1, h2⟩
  have hd : data.size = 256 := Decidable.not_not.1 hd
  by_cases hi : i < 0 ∨ (sizeN K.files s.data.toList : Int) < i ∨ 4000 < i
  · have e : writeE K s i data.size = 15 := by unfold writeE; rw [if_neg (by simpa using he), if_neg (by simpa using hd), if_pos hi]
    exact (write_err3 s i data hW hd hi).mono fun e' w' ⟨h1, h2⟩ => .inl ⟨by rw [e]; decide, by rw [e]; exact h1, h2⟩
  obtain ⟨j, rfl⟩ : ∃ j : Nat, i = (j : Int) := ⟨i.toNat, by omega⟩
  have hj : j ≤ sizeN K.files s.data.toList := by omega
  have hj2 : j ≤ 4000 := by omega
  have e0 : writeE K s j data.size = if (j : Int) = (sizeN K.files s.data.toList : Int) ∧ fullOf K = true then 20 else if getF K.files s.data.toList = none ∧ 60 ≤ K.files.length then 20 else 0 := by
    unfold writeE; rw [if_neg (by simpa using he), if_neg (by simpa using hd), if_neg hi]
  by_cases hf : (j : Int) = (sizeN K.files s.data.toList : Int) ∧ fullOf K = true
  · rw [if_pos hf] at e0
    have hjz : j = sizeN K.files s.data.toList := by omega
    rw [hjz] at hj2 ⊢
    rw [hjz] at e0
    exact (write_err4 h s data hW hd hj2 hf.2).mono fun e' w' ⟨h1, h2⟩ => .inl ⟨by rw [e0]; decide, by rw [e0]; exact h1, h2⟩
  rw [if_neg hf] at e0
  have hok : ∀ e w', OkPost w d K s.data.toList j data e w' → writeE K s j data.size = 0 → WritePost w d K s j data e w' := fun e w' hp h0 => .inr ⟨h0, by rw [Int.toNat_natCast]; exact hp⟩
  cases hg : getF K.files s.data.toList with
  | none =>
    have hz : sizeN K.files s.data.toList = 0 := by unfold sizeN; rw [hg]
    rw [hz] at hj hW hf
    obtain rfl : j = 0 := by omega
    have hfu : fullOf K = false := by
      cases hfu : fullOf K with
      | false => rfl
      | true => exact absurd ⟨rfl, hfu⟩ hf
    have hp2 : p = none := by rw [hg] at hp; simpa [ptr] using hp.symm
    subst hp2
    by_cases h60 : 60 ≤ K.files.length
    · rw [if_pos ⟨hg, h60⟩] at e0
      exact (write_err5 h s data hW hd hfu h60).mono fun e' w' ⟨h1, h2⟩ => .inl ⟨by rw [e0]; decide, by rw [e0]; exact h1, h2⟩
    · rw [if_neg (fun hx => h60 hx.2)] at e0
      refine (write_fresh h s data hW hd hfu (by omega) ht (fun W hWb => ?_)).mono fun e w' hp => hok e w' hp e0
      refine ((h.below hWb).create s hg (by omega) hs2).mono ?_
      rintro e w' ⟨b, m, rfl, hst⟩
      have hst2 : Step w d K w' { K with m := m, files := (s.data.toList, Fl.fresh b) :: K.files } := (Step.below h hWb).trans hst
      have hre : restF ((s.data.toList, Fl.fresh b) :: K.files) s.data.toList = restF K.files s.data.toList := by
        unfold restF
        rw [List.filter_cons_of_neg (by simp)]
      exact ⟨b, rfl, DiskAt.wend (F := Fl.fresh b) hst2 ⟨m, _, rfl, hre⟩ (by simp) (.inr ⟨hg, b, rfl⟩) (Nat.zero_le _) hj2 hd hon hl ht⟩
  | some F =>
    have hz : sizeN K.files s.data.toList = F.secs.length := by unfold sizeN; rw [hg]
    rw [if_neg (fun hx => by rw [hg] at hx; cases hx.1)] at e0
    have hp2 : p = some ⟨F.b, 0, none⟩ := by rw [hg] at hp; simpa [ptr] using hp.symm
    subst hp2
    have hm := getF_mem hg
    have hE : ∀ W0, Below w.heap.size w W0 → WEnd w d K s.data.toList j data F.b W0 := fun W0 hW0 =>
      DiskAt.wend (F := F) (Step.below h hW0) ⟨K.m, K.files, rfl, rfl⟩ hm (.inl hg) (by omega) hj2 hd hon hl ht
    by_cases hjz : j = sizeN K.files s.data.toList
    · have hfu : fullOf K = false := by
        cases hfu : fullOf K with
        | false => rfl
        | true => exact absurd ⟨by omega, hfu⟩ hf
      subst hjz
      exact (write_behind h s F.b data hW hd hj2 hfu ht hE).mono fun e w' hp => hok e w' hp e0
    · exact (write_over s j F.b data hW hd (by omega) hj2 ht (hE _ (below_new _ _))).mono fun e w' hp => hok e w' hp e0

theorem new_disk (w : World) (room : Int) : Calls Try.prog 9 #[.int .i64 room] w fun e w' => e = .returned (.pointer (some ⟨w.heap.size, 0, none⟩)) ∧ Below w.heap.size w w' ∧ w'.heap[w.heap.size]? = some (.cells #[.map none, .bool true, .int .i64 room, .int .i64 0, .bool false, .int .i64 0, .slice none 0 0] 58 (0, 0)) := by
  go_enter Try.func9, Try.ntmps9
  go_wp2
  go_ret
  exact ⟨rfl, below_new _ _, heap_alloc_new w _⟩
def Dk.new (room : Int) : Dk := ⟨none, [], true, room, 0, false, 0, .slice none 0 0, []⟩
theorem new_at_disk {w : World} {d : Nat} {room : Int} (h : w.heap[d]? = some (.cells #[.map none, .bool true, .int .i64 room, .int .i64 0, .bool false, .int .i64 0, .slice none 0 0] 58 (0, 0))) : DiskAt w d (Dk.new room) :=
  ⟨h, World.ownsRow_nil _ _ _ _, .inl ⟨rfl, rfl⟩, ⟨fun p hp => by simp [Dk.new] at hp, fun p hp => by simp [Dk.new] at hp, List.nodup_nil, List.Pairwise.nil, Nat.zero_le _, fun p hp => by simp [Dk.new] at hp, List.nodup_nil⟩, fun x hx => by simp [Dk.new, allW] at hx, fun x hx => by simp [Dk.new, allW] at hx, ⟨Nat.le_refl _, by simp [Dk.new]⟩⟩

theorem DiskAt.restore {w : World} {d : Nat} {K : Dk} (h : DiskAt w d K) : Calls Try.prog 14 #[.pointer (some ⟨d, 0, none⟩)] w fun e w' => e = .returned (.tuple #[]) ∧ Step w d K w' { K with on := true } := by
  have c1 := cell_at h.blk 1
  have c1 : w.cell? ⟨d, 1, none⟩ = some (.bool K.on) := c1
  have f1 := free_at h.blk 1
  have HS : Hid (Step w d K (w.setCell ⟨d, 1, none⟩ (.bool true)) { K with on := true }) := .own h ((Only.refl d w).setCell 1 _) (set_at h.blk 1 _) rfl rfl ⟨rfl, rfl⟩ (Nat.le_refl _) h.many.2
  clear h
  go_enter Try.func14, Try.ntmps14
  go_wp2
  go_end0
  exact ⟨rfl, HS.out⟩
theorem restore_nil (w : World) : Calls Try.prog 14 #[.pointer none] w fun e w' => e = .returned (.tuple #[]) ∧ w = w' := by
  go_enter Try.func14, Try.ntmps14
  go_wp2
  go_end0
  exact ⟨rfl, rfl⟩

end Go.Proofs.Ytlgloikhdbmgdaa.P4
