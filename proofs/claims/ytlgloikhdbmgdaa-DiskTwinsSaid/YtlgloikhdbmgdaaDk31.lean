/-
  Package disk: Read, whatever is handed in. (Disk, part 31.)
-/
import Derived.Test.YtlgloikhdbmgdaaFill4
namespace Go.Proofs.Ytlgloikhdbmgdaa.P4
open Go Go.RowKit Go.Lib Go.Maps Go.ChangeMaps Go.MapKept Go.Proofs.Ytlgloikhdbmgdaa.P3

/-- what Read tells: the text, the error -/
def readE (K : Dk) (s : ByteArray) (i : Int) : Int :=
  if errF K.on s.size (getF K.files s.data.toList) ≠ 0 then errF K.on s.size (getF K.files s.data.toList)
  else if i < 0 ∨ (sizeN K.files s.data.toList : Int) ≤ i then 15 else 0
def nowOf (o : Option Fl) (i : Nat) : ByteArray := match o with | none => ⟨#[]⟩ | some F => match F.secs[i]? with | none => ⟨#[]⟩ | some x => x.now
def readT (K : Dk) (s : ByteArray) (i : Int) : ByteArray := if readE K s i ≠ 0 then ⟨#[]⟩ else nowOf (getF K.files s.data.toList) i.toNat
def ReadPost (w : World) (K : Dk) (s : ByteArray) (i : Int) (e : Ending) (w' : World) : Prop := e = .returned (.tuple #[.string (readT K s i), .int .i64 (readE K s i)]) ∧ Below w.heap.size w w'

theorem errF_zero {on : Bool} {n : Nat} {o : Option Fl} (h : errF on n o = 0) : errn on n = 0 ∧ ∃ F, o = some F := by
  unfold errF at h
  by_cases he : errn on n = 0
  · rw [if_pos he] at h
    cases o with
    | none => exact absurd h (by decide)
    | some F => exact ⟨he, F, rfl⟩
  · rw [if_neg he] at h
    exact absurd h he
theorem read_err {w : World} {d : Nat} (s : ByteArray) (i : Int) (v : Value) (z : Int) (hz : (z != 0) = true) (H : Hid (Calls Try.prog 38 #[.pointer (some ⟨d, 0, none⟩), .string s] w fun e w' => e = .returned (.tuple #[v, .int .i64 z]) ∧ Below w.heap.size w w')) :
    Calls Try.prog 16 #[.pointer (some ⟨d, 0, none⟩), .string s, .int .i64 i] w fun e w' => e = .returned (.tuple #[.string ⟨#[]⟩, .int .i64 z]) ∧ Below w.heap.size w w' := by
  go_enter Try.func16, Try.ntmps16
  go_wp2_with (go_at_call 38; (with_reducible refine H.out.mono ?_); rintro e w' ⟨rfl, hb⟩; have HB := Lib.hid hb; clear hb)
  go_ret2
  exact ⟨rfl, HB.out⟩
theorem read_low {w : World} {d b : Nat} (s : ByteArray) (i : Int) (hi : i < 0) (H : Hid (Calls Try.prog 38 #[.pointer (some ⟨d, 0, none⟩), .string s] w fun e w' => e = .returned (.tuple #[.pointer (some ⟨b, 0, none⟩), .int .i64 0]) ∧ Below w.heap.size w w')) :
    Calls Try.prog 16 #[.pointer (some ⟨d, 0, none⟩), .string s, .int .i64 i] w fun e w' => e = .returned (.tuple #[.string ⟨#[]⟩, .int .i64 15]) ∧ Below w.heap.size w w' := by
  go_enter Try.func16, Try.ntmps16
  go_wp2_with (go_at_call 38; (with_reducible refine H.out.mono ?_); rintro e w' ⟨rfl, hb⟩; have HB := Lib.hid hb; clear hb)
  go_ret2
  exact ⟨rfl, HB.out⟩
theorem read_high {w : World} {d b n : Nat} (s : ByteArray) (i : Int) (hi0 : ¬ i < 0) (hi : (n : Int) ≤ i) (H : Hid (Calls Try.prog 38 #[.pointer (some ⟨d, 0, none⟩), .string s] w fun e w' => e = .returned (.tuple #[.pointer (some ⟨b, 0, none⟩), .int .i64 0]) ∧ Below w.heap.size w w'))
    (HS : Hid (∀ W, Below w.heap.size w W → Calls Try.prog 32 #[.pointer (some ⟨b, 0, none⟩)] W fun e w' => e = .returned (.int .i64 n) ∧ W = w')) :
    Calls Try.prog 16 #[.pointer (some ⟨d, 0, none⟩), .string s, .int .i64 i] w fun e w' => e = .returned (.tuple #[.string ⟨#[]⟩, .int .i64 15]) ∧ Below w.heap.size w w' := by
  go_enter Try.func16, Try.ntmps16
  go_wp2_with (first
    | (go_at_call 38; (with_reducible refine H.out.mono ?_); rintro e w' ⟨rfl, hb⟩; have HB := Lib.hid hb; clear hb)
    | (go_at_call 32; (with_reducible refine (HS.out _ HB.out).mono ?_); rintro e w2 ⟨rfl, rfl⟩))
  go_ret2
  exact ⟨rfl, HB.out⟩
theorem read_there {w : World} {d b n g cap : Nat} (s t : ByteArray) (i : Nat) (hi : i < n) (H : Hid (Calls Try.prog 38 #[.pointer (some ⟨d, 0, none⟩), .string s] w fun e w' => e = .returned (.tuple #[.pointer (some ⟨b, 0, none⟩), .int .i64 0]) ∧ Below w.heap.size w w'))
    (HS : Hid (∀ W, Below w.heap.size w W → Calls Try.prog 32 #[.pointer (some ⟨b, 0, none⟩)] W fun e w' => e = .returned (.int .i64 n) ∧ W = w'))
    (HC : Hid (∀ W, Below w.heap.size w W → W.cell? ⟨b, 0, none⟩ = some (.slice (some ⟨g, 0, none⟩) n cap) ∧ W.cell? ⟨g, i * 3, none⟩ = some (.string t))) :
    Calls Try.prog 16 #[.pointer (some ⟨d, 0, none⟩), .string s, .int .i64 i] w fun e w' => e = .returned (.tuple #[.string t, .int .i64 0]) ∧ Below w.heap.size w w' := by
  have h1 : ¬ ((i : Int) < 0) := by omega
  have h2 : ¬ ((n : Int) ≤ (i : Int)) := by omega
  have h3 : (0 : Int) ≤ (i : Int) := by omega
  have h4 : (i : Int) < (n : Int) := by omega
  go_enter Try.func16, Try.ntmps16
  go_wp2_with (first
    | (go_at_call 38; (with_reducible refine H.out.mono ?_); rintro e w' ⟨rfl, hb⟩; obtain ⟨q0, q1⟩ := HC.out _ hb; have HB := Lib.hid hb; clear hb)
    | (go_at_call 32; (with_reducible refine (HS.out _ HB.out).mono ?_); rintro e w2 ⟨rfl, rfl⟩))
  go_ret2
  exact ⟨rfl, HB.out⟩
theorem DiskAt.read {w : World} {d : Nat} {K : Dk} (h : DiskAt w d K) (s : ByteArray) (i : Int) (hs : s.size ≤ maxLen) :
    Calls Try.prog 16 #[.pointer (some ⟨d, 0, none⟩), .string s, .int .i64 i] w (ReadPost w K s i) := by
  have HF := h.find s hs
  unfold ReadPost
  by_cases he : errF K.on s.size (getF K.files s.data.toList) ≠ 0
  · have e : readE K s i = errF K.on s.size (getF K.files s.data.toList) := by unfold readE; rw [if_pos he]
    have e2 : readT K s i = ⟨#[]⟩ := by unfold readT; rw [if_pos (by rw [e]; exact he)]
    rw [e, e2]
    obtain ⟨p, hp⟩ := ptr_shape (if errn K.on s.size = 0 then (getF K.files s.data.toList).map (·.b) else none)
    rw [hp] at HF
    exact read_err s i _ _ (by simpa using he) HF
  · have he : errF K.on s.size (getF K.files s.data.toList) = 0 := Decidable.not_not.1 he
    obtain ⟨h0, F, hF⟩ := errF_zero he
    rw [he, if_pos h0, hF] at HF
    have hm := getF_mem hF
    have hz : sizeN K.files s.data.toList = F.secs.length := by unfold sizeN; rw [hF]
    have hfl := h.files.at' _ hm
    have HS : Hid (∀ W, Below w.heap.size w W → Calls Try.prog 32 #[.pointer (some ⟨F.b, 0, none⟩)] W fun e w' => e = .returned (.int .i64 F.secs.length) ∧ W = w') := fun W hW => (hfl.below hW).size
    have e0 : readE K s i = if i < 0 ∨ (F.secs.length : Int) ≤ i then 15 else 0 := by unfold readE; rw [if_neg (by simpa using he), hz]
    by_cases hi : i < 0 ∨ (F.secs.length : Int) ≤ i
    · rw [if_pos hi] at e0
      have e2 : readT K s i = ⟨#[]⟩ := by unfold readT; rw [if_pos (by rw [e0]; decide)]
      rw [e0, e2]
      by_cases h1 : i < 0
      · exact read_low s i h1 HF
      · exact read_high s i h1 (by omega) HF HS
    · rw [if_neg hi] at e0
      obtain ⟨j, rfl⟩ : ∃ j : Nat, i = (j : Int) := ⟨i.toNat, by omega⟩
      have hj : j < F.secs.length := by omega
      have e2 : readT K s j = F.secs[j].now := by unfold readT nowOf; rw [if_neg (by rw [e0]; decide), hF, Int.toNat_natCast]; simp [hj]
      rw [e0, e2]
      obtain ⟨g, cap2, _, hg, _⟩ := owns_some hfl.row (by omega : 0 < F.secs.length)
      refine read_there (g := g) (cap := cap2) s _ j hj HF HS (fun W hW => ?_)
      have hW2 := hfl.below hW
      refine ⟨(cell_at hW2.blk 0).trans (by rw [← hg]; rfl), ?_⟩
      have hr := hW2.row
      rw [hg] at hr
      exact owns_cell hr (secs_at F.secs j F.secs[j] (by simp [hj])).1

end Go.Proofs.Ytlgloikhdbmgdaa.P4
