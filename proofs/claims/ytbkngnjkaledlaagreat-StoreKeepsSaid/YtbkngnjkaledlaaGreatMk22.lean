/-
  Texts of the proof of SaidKeeps8, side by side: Dk31, St0.
-/
import Derived.Test.YtbkngnjkaledlaaGreatMk21
import Derived.Test.YtbkngnjkaledlaaGreatMk01
import Derived.Deep.RegionHeld3
import Derived.Deep.CutRange
/-
  Package disk: Read, whatever is handed in. (Disk, part 31.)
-/
namespace Go.Proofs.YtbkngnjkaledlaaGreat.P4
open Go Go.RowKit Go.Lib Go.Maps Go.ChangeMaps Go.MapKept Go.Proofs.YtbkngnjkaledlaaGreat.P3

/-- what Read tells: the text, the error -/
def readE (K : Dk) (s : ByteArray) (i : Int) : Int :=
  if errF K.on s.size (getF K.files s.data.toList) ≠ 0 then errF K.on s.size (getF K.files s.data.toList)
  else if i < 0 ∨ (sizeN K.files s.data.toList : Int) ≤ i then 15 else 0
def nowOf (o : Option Fl) (i : Nat) : ByteArray := match o with | none => ⟨#[]⟩ | some F => match F.secs[i]? with | none => ⟨#[]⟩ | some x => x.now
def readT (K : Dk) (s : ByteArray) (i : Int) : ByteArray := if readE K s i ≠ 0 then ⟨#[]⟩ else nowOf (getF K.files s.data.toList) i.toNat
def ReadPost (w : World) (K : Dk) (s : ByteArray) (i : Int) (e : Ending) (w' : World) : Prop := e = .returned (.tuple #[.string (readT K s i), .int .i64 (readE K s i)]) ∧ Below w.heap.size w w'

theorem errF_zero {on : Bool} {n : Nat} {o : Option Fl} (h : errF on n o = 0) : errn on n = 0 ∧ ∃ F, o = some F := by
  unfold errF at h
  by_cases he : errn on n = 0
  · rw [if_pos he] at h
    cases o with
    | none => exact absurd h (by decide)
    | some F => exact ⟨he, F, rfl⟩
  · rw [if_neg he] at h
    exact absurd h he
theorem read_err {w : World} {d : Nat} (s : ByteArray) (i : Int) (v : Value) (z : Int) (hz : (z != 0) = true) (H : Hid (Calls Tryz.prog 98 #[.pointer (some ⟨d, 0, none⟩), .string s] w fun e w' => e = .returned (.tuple #[v, .int .i64 z]) ∧ Below w.heap.size w w')) :
    Calls Tryz.prog 65 #[.pointer (some ⟨d, 0, none⟩), .string s, .int .i64 i] w fun e w' => e = .returned (.tuple #[.string ⟨#[]⟩, .int .i64 z]) ∧ Below w.heap.size w w' := by
  go_enter Tryz.func65, Tryz.ntmps65
  go_wp2_with (go_at_call 98; (with_reducible refine H.out.mono ?_); rintro e w' ⟨rfl, hb⟩; have HB := Lib.hid hb; clear hb)
  go_ret2
  exact ⟨rfl, HB.out⟩
theorem read_low {w : World} {d b : Nat} (s : ByteArray) (i : Int) (hi : i < 0) (H : Hid (Calls Tryz.prog 98 #[.pointer (some ⟨d, 0, none⟩), .string s] w fun e w' => e = .returned (.tuple #[.pointer (some ⟨b, 0, none⟩), .int .i64 0]) ∧ Below w.heap.size w w')) :
    Calls Tryz.prog 65 #[.pointer (some ⟨d, 0, none⟩), .string s, .int .i64 i] w fun e w' => e = .returned (.tuple #[.string ⟨#[]⟩, .int .i64 15]) ∧ Below w.heap.size w w' := by
  go_enter Tryz.func65, Tryz.ntmps65
  go_wp2_with (go_at_call 98; (with_reducible refine H.out.mono ?_); rintro e w' ⟨rfl, hb⟩; have HB := Lib.hid hb; clear hb)
  go_ret2
  exact ⟨rfl, HB.out⟩
theorem read_high {w : World} {d b n : Nat} (s : ByteArray) (i : Int) (hi0 : ¬ i < 0) (hi : (n : Int) ≤ i) (H : Hid (Calls Tryz.prog 98 #[.pointer (some ⟨d, 0, none⟩), .string s] w fun e w' => e = .returned (.tuple #[.pointer (some ⟨b, 0, none⟩), .int .i64 0]) ∧ Below w.heap.size w w'))
    (HS : Hid (∀ W, Below w.heap.size w W → Calls Tryz.prog 93 #[.pointer (some ⟨b, 0, none⟩)] W fun e w' => e = .returned (.int .i64 n) ∧ W = w')) :
    Calls Tryz.prog 65 #[.pointer (some ⟨d, 0, none⟩), .string s, .int .i64 i] w fun e w' => e = .returned (.tuple #[.string ⟨#[]⟩, .int .i64 15]) ∧ Below w.heap.size w w' := by
  go_enter Tryz.func65, Tryz.ntmps65
  go_wp2_with (first
    | (go_at_call 98; (with_reducible refine H.out.mono ?_); rintro e w' ⟨rfl, hb⟩; have HB := Lib.hid hb; clear hb)
    | (go_at_call 93; (with_reducible refine (HS.out _ HB.out).mono ?_); rintro e w2 ⟨rfl, rfl⟩))
  go_ret2
  exact ⟨rfl, HB.out⟩
theorem read_there {w : World} {d b n g cap : Nat} (s t : ByteArray) (i : Nat) (hi : i < n) (H : Hid (Calls Tryz.prog 98 #[.pointer (some ⟨d, 0, none⟩), .string s] w fun e w' => e = .returned (.tuple #[.pointer (some ⟨b, 0, none⟩), .int .i64 0]) ∧ Below w.heap.size w w'))
    (HS : Hid (∀ W, Below w.heap.size w W → Calls Tryz.prog 93 #[.pointer (some ⟨b, 0, none⟩)] W fun e w' => e = .returned (.int .i64 n) ∧ W = w'))
    (HC : Hid (∀ W, Below w.heap.size w W → W.cell? ⟨b, 0, none⟩ = some (.slice (some ⟨g, 0, none⟩) n cap) ∧ W.cell? ⟨g, i * 3, none⟩ = some (.string t))) :
    Calls Tryz.prog 65 #[.pointer (some ⟨d, 0, none⟩), .string s, .int .i64 i] w fun e w' => e = .returned (.tuple #[.string t, .int .i64 0]) ∧ Below w.heap.size w w' := by
  have h1 : ¬ ((i : Int) < 0) := by omega
  have h2 : ¬ ((n : Int) ≤ (i : Int)) := by omega
  have h3 : (0 : Int) ≤ (i : Int) := by omega
  have h4 : (i : Int) < (n : Int) := by omega
  go_enter Tryz.func65, Tryz.ntmps65
  go_wp2_with (first
    | (go_at_call 98; (with_reducible refine H.out.mono ?_); rintro e w' ⟨rfl, hb⟩; obtain ⟨q0, q1⟩ := HC.out _ hb; have HB := Lib.hid hb; clear hb)
    | (go_at_call 93; (with_reducible refine (HS.out _ HB.out).mono ?_); rintro e w2 ⟨rfl, rfl⟩))
  go_ret2
  exact ⟨rfl, HB.out⟩
theorem DiskAt.read {w : World} {d : Nat} {K : Dk} (h : DiskAt w d K) (s : ByteArray) (i : Int) (hs : s.size ≤ maxLen) :
    Calls Tryz.prog 65 #[.pointer (some ⟨d, 0, none⟩), .string s, .int .i64 i] w (ReadPost w K s i) := by
  have HF := h.find s hs
  unfold ReadPost
  by_cases he : errF K.on s.size (getF K.files s.data.toList) ≠ 0
  · have e : readE K s i = errF K.on s.size (getF K.files s.data.toList) := by unfold readE; rw [if_pos he]
    have e2 : readT K s i = ⟨#[]⟩ := by unfold readT; rw [if_pos (by rw [e]; exact he)]
    rw [e, e2]
    obtain ⟨p, hp⟩ := ptr_shape (if errn K.on s.size = 0 then (getF K.files s.data.toList).map (·.b) else none)
    rw [hp] at HF
    exact read_err s i _ _ (by simpa using he) HF
  · have he : errF K.on s.size (getF K.files s.data.toList) = 0 := Decidable.not_not.1 he
    obtain ⟨h0, F, hF⟩ := errF_zero he
    rw [he, if_pos h0, hF] at HF
    have hm := getF_mem hF
    have hz : sizeN K.files s.data.toList = F.secs.length := by unfold sizeN; rw [hF]
    have hfl := h.files.at' _ hm
    have HS : Hid (∀ W, Below w.heap.size w W → Calls Tryz.prog 93 #[.pointer (some ⟨F.b, 0, none⟩)] W fun e w' => e = .returned (.int .i64 F.secs.length) ∧ W = w') := fun W hW => (hfl.below hW).size
    have e0 : readE K s i = if i < 0 ∨ (F.secs.length : Int) ≤ i then 15 else 0 := by unfold readE; rw [if_neg (by simpa using he), hz]
    by_cases hi : i < 0 ∨ (F.secs.length : Int) ≤ i
    · rw [if_pos hi] at e0
      have e2 : readT K s i = ⟨#[]⟩ := by unfold readT; rw [if_pos (by rw [e0]; decide)]
      rw [e0, e2]
      by_cases h1 : i < 0
      · exact read_low s i h1 HF
      · exact read_high s i h1 (by omega) HF HS
    · rw [if_neg hi] at e0
      obtain ⟨j, rfl⟩ : ∃ j : Nat, i = (j : Int) := ⟨i.toNat, by omega⟩
      have hj : j < F.secs.length := by omega
      have e2 : readT K s j = F.secs[j].now := by unfold readT nowOf; rw [if_neg (by rw [e0]; decide), hF, Int.toNat_natCast]; simp [hj]
      rw [e0, e2]
      obtain ⟨g, cap2, _, hg, _⟩ := owns_some hfl.row (by omega : 0 < F.secs.length)
      refine read_there (g := g) (cap := cap2) s _ j hj HF HS (fun W hW => ?_)
      have hW2 := hfl.below hW
      refine ⟨(cell_at hW2.blk 0).trans (by rw [← hg]; rfl), ?_⟩
      have hr := hW2.row
      rw [hg] at hr
      exact owns_cell hr (secs_at F.secs j F.secs[j] (by simp [hj])).1

end Go.Proofs.YtbkngnjkaledlaaGreat.P4

/-
  Package store: the store in memory; Open, Name, Reads, Size. (Store, part 0.)
-/
namespace Go.Proofs.YtbkngnjkaledlaaGreat.P8
open Go Go.RowKit Go.Lib Go.Maps Go.ChangeMaps Go.MapKept Go.Proofs.YtbkngnjkaledlaaGreat.P3 Go.Proofs.YtbkngnjkaledlaaGreat.P4

/-- block b is a store of the disk at d, of the name s; it has told n pages -/
def StAt (w : World) (b d : Nat) (s : ByteArray) (n : Int) : Prop := w.heap[b]? = some (.cells #[.pointer (some ⟨d, 0, none⟩), .string s, .int .i64 n] 84 (0, 0))
section
variable {w w' : World} {b d : Nat} {s : ByteArray} {n : Int} {K : Dk}
theorem StAt.lt (h : StAt w b d s n) : b < w.heap.size := P3.lt_of_block h
theorem StAt.c0 (h : StAt w b d s n) : w.cell? ⟨b, 0, none⟩ = some (.pointer (some ⟨d, 0, none⟩)) := by rw [P3.cell_at h]; rfl
theorem StAt.c1 (h : StAt w b d s n) : w.cell? ⟨b, 1, none⟩ = some (.string s) := by rw [P3.cell_at h]; rfl
theorem StAt.c2 (h : StAt w b d s n) : w.cell? ⟨b, 2, none⟩ = some (.int .i64 n) := by rw [P3.cell_at h]; rfl
theorem StAt.free (h : StAt w b d s n) : w.frozen? ⟨b, 2, none⟩ = false := P3.free_at h 2
theorem StAt.set (h : StAt w b d s n) (m : Int) : StAt (w.setCell ⟨b, 2, none⟩ (.int .i64 m)) b d s m := by
  unfold StAt; rw [P3.set_at h]; rfl
theorem StAt.below (h : StAt w b d s n) (hb : Below w.heap.size w w') : StAt w' b d s n := P3.old_below h hb
theorem StAt.fr {S : Nat → Prop} (h : StAt w b d s n) (hf : Fr S w w') (hb : ¬ S b) : StAt w' b d s n := hf.keep h hb
/-- both: the store, its disk -/
def SD (w : World) (b d : Nat) (s : ByteArray) (n : Int) (K : Dk) : Prop := StAt w b d s n ∧ DiskAt w d K ∧ ¬ K.foot d b
theorem SD.below (h : SD w b d s n K) (hb : Below w.heap.size w w') : SD w' b d s n K := ⟨h.1.below hb, h.2.1.below hb, h.2.2⟩
theorem SD.fr {S : Nat → Prop} (h : SD w b d s n K) (hf : Fr S w w') (hb : ¬ S b) (hS : ∀ k, K.foot d k → ¬ S k) : SD w' b d s n K := ⟨h.1.fr hf hb, h.2.1.fr hf hS, h.2.2⟩
theorem SD.step {K' : Dk} (h : SD w b d s n K) (k : Step w d K w' K') : SD w' b d s n K' :=
  ⟨h.1.fr k.fr h.2.2, k.at', fun q => (k.foot b q).elim h.2.2 fun q => by have := h.1.lt; omega⟩
theorem SD.cells (h : SD w b d s n K) : w.cell? ⟨b, 0, none⟩ = some (.pointer (some ⟨d, 0, none⟩)) ∧ w.cell? ⟨b, 1, none⟩ = some (.string s) := ⟨h.1.c0, h.1.c1⟩
theorem SD.disk (h : SD w b d s n K) : DiskAt w d K := h.2.1

theorem named_any (w : World) (s : ByteArray) (hs : s.size ≤ maxLen) :
    Calls Tryz.prog 30 #[.string s] w fun e w' => e = .returned (.bool (decide (1 ≤ s.size ∧ s.size ≤ 40))) ∧ Below w.heap.size w w' := by
  have HN := Lib.hid (fun w => new_disk w 0)
  have HS : Hid (∀ W, DiskAt W w.heap.size (Dk.new 0) → Calls Tryz.prog 73 #[.pointer (some ⟨w.heap.size, 0, none⟩), .string s] W fun e w' => e = .returned (.tuple #[.int .i64 0, .int .i64 (if 1 ≤ s.size ∧ s.size ≤ 40 then 8 else 1)]) ∧ Below W.heap.size W w') := fun W k => by
    have h1 := k.sizeOf s hs
    have e1 : sizeF (Dk.new 0).on s.size (getF (Dk.new 0).files s.data.toList) = 0 := by unfold sizeF; split <;> rfl
    have e2 : errF (Dk.new 0).on s.size (getF (Dk.new 0).files s.data.toList) = if 1 ≤ s.size ∧ s.size ≤ 40 then 8 else 1 := by
      show errF true s.size none = _
      by_cases q : 1 ≤ s.size ∧ s.size ≤ 40
      · have e : errn true s.size = 0 := by unfold errn; rw [if_neg (by decide), if_neg (by omega)]
        unfold errF
        rw [if_pos q, if_pos e]
      · have e : errn true s.size = 1 := by unfold errn; rw [if_neg (by decide), if_pos (by omega)]
        unfold errF
        rw [if_neg q, e]
        rfl
    rw [e1, e2] at h1
    exact h1
  obtain ⟨z, hz⟩ : ∃ z : Int, z = if 1 ≤ s.size ∧ s.size ≤ 40 then 8 else 1 := ⟨_, rfl⟩
  rw [← hz] at HS
  have hq : (z != 1) = decide (1 ≤ s.size ∧ s.size ≤ 40) := by
    by_cases q : 1 ≤ s.size ∧ s.size ≤ 40
    · rw [if_pos q] at hz; rw [hz, decide_eq_true q]; rfl
    · rw [if_neg q] at hz; rw [hz, decide_eq_false q]; rfl
  obtain ⟨B, hB⟩ : ∃ B, B = decide (1 ≤ s.size ∧ s.size ≤ 40) := ⟨_, rfl⟩
  rw [← hB] at hq ⊢
  clear hz hB hs
  go_enter Tryz.func30, Tryz.ntmps30
  go_wp2_with (first
    | (go_at_call 7; (with_reducible refine (HN.out _).mono ?_); rintro e w1 ⟨rfl, hb, hn⟩; have HB := Lib.hid hb; have HD := Lib.hid (new_at_disk hn); clear hb hn)
    | (go_at_call 73; (with_reducible refine (HS.out _ HD.out).mono ?_); rintro e w2 ⟨rfl, hb⟩; have HC := Lib.hid (thenBelow HB.out hb); clear hb))
  go_ret
  exact ⟨rfl, HC.out⟩

theorem open_nil (w : World) (s : ByteArray) : Calls Tryz.prog 8 #[.pointer none, .string s] w fun e w' => e = .returned (.tuple #[.pointer none, .int .i64 1]) ∧ Below w.heap.size w w' := by
  go_enter Tryz.func8, Tryz.ntmps8
  go_wp2
  go_ret2
  exact ⟨rfl, Below.refl _ _⟩
theorem open_bad (w : World) (d : Nat) (s : ByteArray) (hs : s.size ≤ maxLen) (h : ¬ (1 ≤ s.size ∧ s.size ≤ 40)) : Calls Tryz.prog 8 #[.pointer (some ⟨d, 0, none⟩), .string s] w fun e w' => e = .returned (.tuple #[.pointer none, .int .i64 1]) ∧ Below w.heap.size w w' := by
  have HN := named_any w s hs
  rw [decide_eq_false h] at HN
  have HN := Lib.hid HN
  go_enter Tryz.func8, Tryz.ntmps8
  go_wp2_with (go_at_call 30; (with_reducible refine HN.out.mono ?_); rintro e w1 ⟨rfl, hb⟩; have HB := Lib.hid hb; clear hb)
  go_ret2
  exact ⟨rfl, HB.out⟩
theorem open_off (hK : DiskAt w d K) (s : ByteArray) (h1 : 1 ≤ s.size) (h2 : s.size ≤ 40) (hon : K.on = false) : Calls Tryz.prog 8 #[.pointer (some ⟨d, 0, none⟩), .string s] w fun e w' => e = .returned (.tuple #[.pointer none, .int .i64 14]) ∧ Below w.heap.size w w' := by
  have HN := named_any w s (by unfold maxLen; omega)
  rw [decide_eq_true ⟨h1, h2⟩] at HN
  have HN := Lib.hid HN
  have HO : Hid (∀ W, Below w.heap.size w W → Calls Tryz.prog 31 #[.pointer (some ⟨d, 0, none⟩)] W fun e w' => e = .returned (.bool false) ∧ W = w') := fun W hb => on_any W d false (by rw [P3.cell_at (hK.below hb).blk]; show some (Value.bool K.on) = _; rw [hon])
  clear hK hon
  go_enter Tryz.func8, Tryz.ntmps8
  go_wp2_with (first
    | (go_at_call 30; (with_reducible refine HN.out.mono ?_); rintro e w1 ⟨rfl, hb⟩; have HB := Lib.hid hb; clear hb)
    | (go_at_call 31; (with_reducible refine (HO.out _ HB.out).mono ?_); rintro e w2 ⟨rfl, rfl⟩))
  go_ret2
  exact ⟨rfl, HB.out⟩
theorem open_ok (hK : DiskAt w d K) (s : ByteArray) (h1 : 1 ≤ s.size) (h2 : s.size ≤ 40) (hon : K.on = true) : Calls Tryz.prog 8 #[.pointer (some ⟨d, 0, none⟩), .string s] w fun e w' => ∃ b, e = .returned (.tuple #[.pointer (some ⟨b, 0, none⟩), .int .i64 0]) ∧ w.heap.size ≤ b ∧ SD w' b d s 0 K ∧ Below w.heap.size w w' := by
  have HN := named_any w s (by unfold maxLen; omega)
  rw [decide_eq_true ⟨h1, h2⟩] at HN
  have HN := Lib.hid HN
  have HO : Hid (∀ W, Below w.heap.size w W → Calls Tryz.prog 31 #[.pointer (some ⟨d, 0, none⟩)] W fun e w' => e = .returned (.bool true) ∧ W = w') := fun W hb => on_any W d true (by rw [P3.cell_at (hK.below hb).blk]; show some (Value.bool K.on) = _; rw [hon])
  have HC : Hid (∀ W, Calls Tryz.prog 32 #[.string s] W fun e w' => e = .returned (.string s) ∧ Below W.heap.size W w') := fun W => clone_any s W (by omega)
  have HE : Hid (∀ W, Below w.heap.size w W → SD (W.alloc (.cells #[.pointer (some ⟨d, 0, none⟩), .string s, .int .i64 0] 84)) W.heap.size d s 0 K ∧ w.heap.size ≤ W.heap.size ∧ Below w.heap.size w (W.alloc (.cells #[.pointer (some ⟨d, 0, none⟩), .string s, .int .i64 0] 84))) := fun W hb =>
    ⟨⟨P3.new_at W _ _, (hK.below hb).below (P3.below_new W _), fun q => Nat.lt_irrefl _ (Nat.lt_of_lt_of_le (hK.foot_lt _ q) hb.size)⟩, hb.size, P3.grow hb _⟩
  clear hK hon
  go_enter Tryz.func8, Tryz.ntmps8
  go_wp2_with (first
    | (go_at_call 30; (with_reducible refine HN.out.mono ?_); rintro e w1 ⟨rfl, hb⟩; have HB := Lib.hid hb; clear hb)
    | (go_at_call 31; (with_reducible refine (HO.out _ HB.out).mono ?_); rintro e w2 ⟨rfl, rfl⟩)
    | (go_at_call 32; (with_reducible refine (HC.out _).mono ?_); rintro e w3 ⟨rfl, hb⟩; have HB2 := Lib.hid (thenBelow HB.out hb); clear hb))
  go_ret2
  exact ⟨_, rfl, (HE.out _ HB2.out).2.1, (HE.out _ HB2.out).1, (HE.out _ HB2.out).2.2⟩

theorem name_nil (w : World) : Calls Tryz.prog 27 #[.pointer none] w fun e w' => e = .returned (.string ⟨#[]⟩) ∧ w = w' := by
  go_enter Tryz.func27, Tryz.ntmps27
  go_wp2
  go_ret
  exact ⟨rfl, rfl⟩
theorem StAt.name (h : StAt w b d s n) : Calls Tryz.prog 27 #[.pointer (some ⟨b, 0, none⟩)] w fun e w' => e = .returned (.string s) ∧ w = w' := by
  have c1 := h.c1
  clear h
  go_enter Tryz.func27, Tryz.ntmps27
  go_wp2
  go_ret
  exact ⟨rfl, rfl⟩
theorem reads_nil (w : World) : Calls Tryz.prog 22 #[.pointer none] w fun e w' => e = .returned (.int .i64 0) ∧ w = w' := by
  go_enter Tryz.func22, Tryz.ntmps22
  go_wp2
  go_ret
  exact ⟨rfl, rfl⟩
theorem StAt.reads (h : StAt w b d s n) : Calls Tryz.prog 22 #[.pointer (some ⟨b, 0, none⟩)] w fun e w' => e = .returned (.int .i64 n) ∧ w = w' := by
  have c2 := h.c2
  clear h
  go_enter Tryz.func22, Tryz.ntmps22
  go_wp2_with (go_at_call 72; refine (ct_now _ _ n c2).mono ?_; rintro e w' ⟨rfl, rfl⟩)
  go_ret
  exact ⟨rfl, rfl⟩
theorem stsize_nil (w : World) : Calls Tryz.prog 23 #[.pointer none] w fun e w' => e = .returned (.int .i64 0) ∧ w = w' := by
  go_enter Tryz.func23, Tryz.ntmps23
  go_wp2
  go_ret
  exact ⟨rfl, rfl⟩
set_option maxRecDepth 100000 in
theorem SD.size (h : SD w b d s n K) (hs : s.size ≤ maxLen) : Calls Tryz.prog 23 #[.pointer (some ⟨b, 0, none⟩)] w fun e w' => e = .returned (.int .i64 (sizeF K.on s.size (getF K.files s.data.toList))) ∧ Below w.heap.size w w' := by
  obtain ⟨z, hz⟩ : ∃ z, z = sizeF K.on s.size (getF K.files s.data.toList) := ⟨_, rfl⟩
  obtain ⟨y, hy⟩ : ∃ y, y = errF K.on s.size (getF K.files s.data.toList) := ⟨_, rfl⟩
  have HS : Hid (∀ W, SD W b d s n K → Calls Tryz.prog 73 #[.pointer (some ⟨d, 0, none⟩), .string s] W fun e w' => e = .returned (.tuple #[.int .i64 z, .int .i64 y]) ∧ Below W.heap.size W w') := fun W k => by rw [hz, hy]; exact k.2.1.sizeOf s hs
  rw [← hz]
  clear hz hy
  have HA := Lib.hid h
  have HD := Lib.hid (h.below (Below.refl _ _).drew)
  have HX : Hid (∀ W, SD W b d s n K → W.cell? ⟨b, 0, none⟩ = some (.pointer (some ⟨d, 0, none⟩)) ∧ W.cell? ⟨b, 1, none⟩ = some (.string s)) := fun _ k => k.cells
  have HB1 := Lib.hid (Below.refl w.heap.size w)
  have HB2 := Lib.hid (Below.refl w.heap.size w).drew
  clear h
  go_enter Tryz.func23, Tryz.ntmps23
  go_upto_region 3 with fail
  go_region_held3 (fun W' => W'.cell? ⟨b, 0, none⟩ = some (.pointer (some ⟨d, 0, none⟩)) ∧ W'.cell? ⟨b, 1, none⟩ = some (.string s)) (first | exact HX.out _ HA.out | exact HX.out _ HD.out | exact HX.out _ H2.out)
    ((go_at_call 73; (with_reducible refine (HS.out _ (by first | exact HD.out | exact HA.out)).mono ?_); rintro e w2 ⟨rfl, hb⟩; have H2 := Lib.hid (show SD w2 b d s n K from (by first | exact HD.out.below hb | exact HA.out.below hb)); have HB := Lib.hid (show Below w.heap.size w w2 from (by first | exact thenBelow HB2.out hb | exact thenBelow HB1.out hb)); clear hb))
  all_goals
    go_wp2
    go_ret
    exact ⟨rfl, HB.out⟩
end
end Go.Proofs.YtbkngnjkaledlaaGreat.P8
