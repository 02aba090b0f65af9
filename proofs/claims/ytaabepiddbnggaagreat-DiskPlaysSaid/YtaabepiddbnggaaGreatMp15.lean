/-
  Texts of the proof of SaidPlays, side by side: Dk28, Dk29.
-/
import Derived.Test.YtaabepiddbnggaaGreatMp14
import Derived.Deep.RegionHeld3
/-
  Package disk: Write: it is done. (Disk, part 28.)
-/
namespace Go.Proofs.YtaabepiddbnggaaGreat.P4
open Go Go.RowKit Go.Lib Go.Maps Go.ChangeMaps Go.MapKept Go.Proofs.YtaabepiddbnggaaGreat.P3

set_option maxRecDepth 100000 in
set_option maxHeartbeats 4000000 in
theorem write_over {w : World} {d : Nat} {K : Dk} (s : ByteArray) (i fb : Nat) (data : ByteArray) {z : Nat} (h : WFacts w d K s (some ⟨fb, 0, none⟩) z) (hd : data.size = 256) (hi : i < z) (hi2 : i ≤ 4000) (ht : K.turn < 9000) (hE : WEnd w d K s.data.toList i data fb (w.alloc (.cells #[.string s] 9))) :
    Calls Tryz.prog 18 #[.pointer (some ⟨d, 0, none⟩), .string s, .int .i64 i, .string data] w (OkPost w d K s.data.toList i data) := by
  have HC := Lib.hid h.check
  have HS := Lib.hid h.size
  have c0 := h.c0
  have hl := h.look
  have c3 := hE.c3
  have f3 := hE.f3
  have hlt := hE.lt
  have HE := Lib.hid hE.write
  have HCl : Hid (∀ W, Calls Tryz.prog 91 #[.string data] W fun e w' => e = .returned (.string data) ∧ Below W.heap.size W w') := fun W => clone_any data W (by omega)
  have HB : Hid (∀ w3, Below (((w.alloc (.cells #[.string s] 9)).setCell ⟨d, 3, none⟩ (.int .i64 ((K.turn : Int) + 1))).drew).heap.size (((w.alloc (.cells #[.string s] 9)).setCell ⟨d, 3, none⟩ (.int .i64 ((K.turn : Int) + 1))).drew) w3 → Below ((w.alloc (.cells #[.string s] 9)).setCell ⟨d, 3, none⟩ (.int .i64 ((K.turn : Int) + 1))).heap.size ((w.alloc (.cells #[.string s] 9)).setCell ⟨d, 3, none⟩ (.int .i64 ((K.turn : Int) + 1))) w3 ∧ w3.cell? ⟨d, 3, none⟩ = some (.int .i64 ((K.turn : Int) + 1))) := fun w3 hb => by
    have hb2 : Below ((w.alloc (.cells #[.string s] 9)).setCell ⟨d, 3, none⟩ (.int .i64 ((K.turn : Int) + 1))).heap.size ((w.alloc (.cells #[.string s] 9)).setCell ⟨d, 3, none⟩ (.int .i64 ((K.turn : Int) + 1))) w3 := thenBelow ((Below.refl _ _).drew) hb
    refine ⟨hb2, ?_⟩
    rw [hb2.cell (p := ⟨d, 3, none⟩) (by simpa [World.setCell] using hlt)]
    exact World.cell?_setCell_same _ _ _ c3
  have k1 : ((data.size : Int) != 256) = false := by simp; omega
  have b1 : (i : Int) < (z : Int) := by omega
  have b2 : (i : Int) ≤ 4000 := by omega
  have b3 : (0 : Int) ≤ (i : Int) := by omega
  have k2 : ((i : Int) == (z : Int)) = false := by simp; omega
  have t3 := World.cell?_setCell_same (w.alloc (.cells #[.string s] 9)) ⟨d, 3, none⟩ (.int .i64 ((K.turn : Int) + 1)) c3
  have bt : (K.turn : Int) < 9000 := by omega
  generalize K.turn = T at *
  clear h hd hE
  go_enter Tryz.func18, Tryz.ntmps18
  go_wp2_with (first
    | (go_at_call 86; (with_reducible refine HC.out.mono ?_); rintro e w' ⟨rfl, rfl⟩)
    | (go_at_call 87; (with_reducible refine HS.out.mono ?_); rintro e w' ⟨rfl, rfl⟩))
  go_region_held3 (fun w' => w'.cell? ⟨d, 3, none⟩ = some (.int .i64 ((T : Int) + 1))) (first | exact t3 | exact t4 | exact t5)
    ((first
      | (go_at_call 91; (with_reducible refine (HCl.out _).mono ?_); rintro e w3 ⟨rfl, hb3⟩; obtain ⟨hb4, t4⟩ := HB.out _ hb3)
      | (go_at_call 90; (with_reducible refine (HE.out _ hb4).mono ?_); rintro e w5 ⟨rfl, t5, hct⟩; have HCt := Lib.hid hct; clear hct)))
  all_goals
    go_wp2_with (go_at_call 92; (with_reducible refine HCt.out.mono ?_); rintro e w6 ⟨w1, K1, hs1, hw1, n, K2, rfl, hcnt⟩; have HFin : Hid (OkPost w d K s.data.toList i data (.returned (.int .i64 n)) w6) := ⟨w1, K1, hs1, hw1, n, K2, rfl, hcnt⟩; clear hs1 hw1 hcnt)
    go_ret
    exact HFin.out

/-- the turn is stored, data is cloned -/
theorem WEnd.clone {w W0 : World} {d : Nat} {K : Dk} {n : List UInt8} {i fb : Nat} {data : ByteArray} (h : WEnd w d K n i data fb W0) : ∀ w3, Below ((W0.setCell ⟨d, 3, none⟩ (.int .i64 ((K.turn : Int) + 1))).drew).heap.size ((W0.setCell ⟨d, 3, none⟩ (.int .i64 ((K.turn : Int) + 1))).drew) w3 →
    Below (W0.setCell ⟨d, 3, none⟩ (.int .i64 ((K.turn : Int) + 1))).heap.size (W0.setCell ⟨d, 3, none⟩ (.int .i64 ((K.turn : Int) + 1))) w3 ∧ w3.cell? ⟨d, 3, none⟩ = some (.int .i64 ((K.turn : Int) + 1)) := fun w3 hb => by
  have hb2 : Below (W0.setCell ⟨d, 3, none⟩ (.int .i64 ((K.turn : Int) + 1))).heap.size (W0.setCell ⟨d, 3, none⟩ (.int .i64 ((K.turn : Int) + 1))) w3 := thenBelow ((Below.refl _ _).drew) hb
  refine ⟨hb2, ?_⟩
  rw [hb2.cell (p := ⟨d, 3, none⟩) (by simpa [World.setCell] using h.lt)]
  exact World.cell?_setCell_same _ _ _ h.c3

set_option maxRecDepth 100000 in
set_option maxHeartbeats 4000000 in
theorem write_behind {w : World} {d : Nat} {K : Dk} (hD : DiskAt w d K) (s : ByteArray) (fb : Nat) (data : ByteArray) {z : Nat} (h : WFacts w d K s (some ⟨fb, 0, none⟩) z) (hd : data.size = 256) (hi2 : z ≤ 4000) (hf : fullOf K = false) (ht : K.turn < 9000) (hE : ∀ W0, Below w.heap.size w W0 → WEnd w d K s.data.toList z data fb W0) :
    Calls Tryz.prog 18 #[.pointer (some ⟨d, 0, none⟩), .string s, .int .i64 z, .string data] w (OkPost w d K s.data.toList z data) := by
  have HC := Lib.hid h.check
  have HS := Lib.hid h.size
  have c0 := h.c0
  have hl := h.look
  have HF := hD.wfull s
  rw [hf] at HF
  have HF := Lib.hid HF
  have HE := Lib.hid hE
  have HCl : Hid (∀ W, Calls Tryz.prog 91 #[.string data] W fun e w' => e = .returned (.string data) ∧ Below W.heap.size W w') := fun W => clone_any data W (by omega)
  have k1 : ((data.size : Int) != 256) = false := by simp; omega
  have b2 : (z : Int) ≤ 4000 := by omega
  have b3 : (0 : Int) ≤ (z : Int) := by omega
  have bt : (K.turn : Int) < 9000 := by omega
  generalize hT : K.turn = T at *
  have HT := Lib.hid hT
  clear h hd hE hD hf hT
  go_enter Tryz.func18, Tryz.ntmps18
  go_wp2_with (first
    | (go_at_call 86; (with_reducible refine HC.out.mono ?_); rintro e w' ⟨rfl, rfl⟩)
    | (go_at_call 87; (with_reducible refine HS.out.mono ?_); rintro e w' ⟨rfl, rfl⟩)
    | (go_at_call 88; (with_reducible refine HF.out.mono ?_); rintro e w2 ⟨rfl, hb⟩; have hwe := HE.out w2 hb; have c3 := hwe.c3; rw [HT.out] at c3; have f3 := hwe.f3; have hlt := hwe.lt; have HWE := Lib.hid hwe; have t3 := World.cell?_setCell_same w2 ⟨d, 3, none⟩ (.int .i64 ((T : Int) + 1)) c3; have HWr := hwe.write; rw [HT.out] at HWr; have HWr := Lib.hid HWr; have HB := hwe.clone; rw [HT.out] at HB; have HB := Lib.hid HB; clear hb hwe))
  go_region_held3 (fun w' => w'.cell? ⟨d, 3, none⟩ = some (.int .i64 ((T : Int) + 1))) (first | exact t3 | exact t4 | exact t5)
    ((first
      | (go_at_call 91; (with_reducible refine (HCl.out _).mono ?_); rintro e w3 ⟨rfl, hb3⟩; obtain ⟨hb4, t4⟩ := HB.out _ hb3)
      | (go_at_call 90; (with_reducible refine (HWr.out _ hb4).mono ?_); rintro e w5 ⟨rfl, t5, hct⟩; have HCt := Lib.hid hct; clear hct)))
  all_goals
    go_wp2_with (go_at_call 92; (with_reducible refine HCt.out.mono ?_); rintro e w6 ⟨w1, K1, hs1, hw1, n, K2, rfl, hcnt⟩; have HFin : Hid (OkPost w d K s.data.toList z data (.returned (.int .i64 n)) w6) := ⟨w1, K1, hs1, hw1, n, K2, rfl, hcnt⟩; clear hs1 hw1 hcnt)
    go_ret
    exact HFin.out

set_option maxRecDepth 100000 in
set_option maxHeartbeats 4000000 in
theorem write_fresh {w : World} {d : Nat} {K : Dk} (hD : DiskAt w d K) (s : ByteArray) (data : ByteArray) (h : WFacts w d K s none 0) (hd : data.size = 256) (hf : fullOf K = false) (h60 : K.files.length < 60) (ht : K.turn < 9000)
    (hM : ∀ W, Below w.heap.size w W → Calls Tryz.prog 89 #[.pointer (some ⟨d, 0, none⟩), .string s] W fun e w' => ∃ fb, e = .returned (.pointer (some ⟨fb, 0, none⟩)) ∧ WEnd w d K s.data.toList 0 data fb w') :
    Calls Tryz.prog 18 #[.pointer (some ⟨d, 0, none⟩), .string s, .int .i64 0, .string data] w (OkPost w d K s.data.toList 0 data) := by
  have HC := Lib.hid h.check
  have HS := Lib.hid h.size
  have c0 := h.c0
  have hl := h.look
  have HF := hD.wfull s
  rw [hf] at HF
  have HF := Lib.hid HF
  have HMk := Lib.hid hM
  have HCl : Hid (∀ W, Calls Tryz.prog 91 #[.string data] W fun e w' => e = .returned (.string data) ∧ Below W.heap.size W w') := fun W => clone_any data W (by omega)
  have HL : Hid (∀ W, Below w.heap.size w W → W.cell? ⟨d, 0, none⟩ = some (.map K.m) ∧ ∀ ty, (Builtin.len_ #[65] ty #[.map K.m]).run Tryz.prog W = .ok (.int .i64 (dir K.files).length) W) := fun W hW => ⟨cell_at (hD.below hW).blk 0, fun ty => (hD.below hW).map.len ty⟩
  obtain ⟨nl, hnl⟩ : ∃ nl, nl = (dir K.files).length := ⟨_, rfl⟩
  rw [← hnl] at HL
  have b60 : (nl : Int) < 60 := by rw [hnl]; simp [dir]; omega
  have k1 : ((data.size : Int) != 256) = false := by simp; omega
  have bt : (K.turn : Int) < 9000 := by omega
  generalize hT : K.turn = T at *
  have HT := Lib.hid hT
  clear h hd hM hD hf hT hnl h60
  go_enter Tryz.func18, Tryz.ntmps18
  go_wp2_with (first
    | (go_at_call 86; (with_reducible refine HC.out.mono ?_); rintro e w' ⟨rfl, rfl⟩)
    | (go_at_call 87; (with_reducible refine HS.out.mono ?_); rintro e w' ⟨rfl, rfl⟩)
    | (go_at_call 88; (with_reducible refine HF.out.mono ?_); rintro e w2 ⟨rfl, hb⟩; obtain ⟨q0, ql⟩ := HL.out w2 hb; have HBf := Lib.hid hb; clear hb)
    | (go_at_call 89; (with_reducible refine (HMk.out _ HBf.out).mono ?_); rintro e w4 ⟨fb, rfl, hwe⟩; have c3 := hwe.c3; rw [HT.out] at c3; have f3 := hwe.f3; have hlt := hwe.lt; have HWE := Lib.hid hwe; have t3 := World.cell?_setCell_same w4 ⟨d, 3, none⟩ (.int .i64 ((T : Int) + 1)) c3; have HWr := hwe.write; rw [HT.out, show (((0 : Nat) : Int)) = 0 from rfl] at HWr; have HWr := Lib.hid HWr; have HB := hwe.clone; rw [HT.out] at HB; have HB := Lib.hid HB; clear hwe))
  go_region_held3 (fun w' => w'.cell? ⟨d, 3, none⟩ = some (.int .i64 ((T : Int) + 1))) (first | exact t3 | exact t4 | exact t5)
    ((first
      | (go_at_call 91; (with_reducible refine (HCl.out _).mono ?_); rintro e w3 ⟨rfl, hb3⟩; obtain ⟨hb4, t4⟩ := HB.out _ hb3)
      | (go_at_call 90; (with_reducible refine (HWr.out _ hb4).mono ?_); rintro e w5 ⟨rfl, t5, hct⟩; have HCt := Lib.hid hct; clear hct)))
  all_goals
    go_wp2_with (go_at_call 92; (with_reducible refine HCt.out.mono ?_); rintro e w6 ⟨w1, K1, hs1, hw1, n, K2, rfl, hcnt⟩; have HFin : Hid (OkPost w d K s.data.toList 0 data (.returned (.int .i64 n)) w6) := ⟨w1, K1, hs1, hw1, n, K2, rfl, hcnt⟩; clear hs1 hw1 hcnt)
    go_ret
    exact HFin.out

end Go.Proofs.YtaabepiddbnggaaGreat.P4

/-
  Package disk: Write, whatever is handed in; New, Read, Restore. (Disk, part 29.)
-/
namespace Go.Proofs.YtaabepiddbnggaaGreat.P4
open Go Go.RowKit Go.Lib Go.Maps Go.ChangeMaps Go.MapKept Go.Proofs.YtaabepiddbnggaaGreat.P3

theorem DiskAt.create {w : World} {d : Nat} {K : Dk} (h : DiskAt w d K) (s : ByteArray) (hg : getF K.files s.data.toList = none) (hlen : K.files.length < 60) (hs : s.size ≤ 40) :
    Calls Tryz.prog 89 #[.pointer (some ⟨d, 0, none⟩), .string s] w fun e w' => ∃ b m, e = .returned (.pointer (some ⟨b, 0, none⟩)) ∧ Step w d K w' { K with m := m, files := (s.data.toList, Fl.fresh b) :: K.files } := by
  have hn : (s.data.toList).length ≤ 40 := by rw [← Lib.size_eq]; exact hs
  have hpost : ∀ (m : Option Nat) (e : Ending) (w' : World), K.m = m → MadePost w d (dir K.files) s.data.toList m e w' → ∃ b m, e = .returned (.pointer (some ⟨b, 0, none⟩)) ∧ Step w d K w' { K with m := m, files := (s.data.toList, Fl.fresh b) :: K.files } := by
    rintro m e w' hm ⟨b, b2, rfl, h1, h2, h3, h4, h5, h6, h7⟩
    exact ⟨b, some b2, rfl, h.made hg hlen hn h1 h2 h3 (by rw [hm]; exact h4) (by rw [hm]; exact h6) (h7 _ h.blk)⟩
  cases hm : K.m with
  | some b =>
    have hmap := h.map
    rw [hm] at hmap
    exact (create_some w d b s (dir K.files) h.blk (by show some (Value.map K.m) = _; rw [hm]) hmap (by rw [dir_names]; exact h.files.names) (by have := h.files.few; simp [dir]; omega) (by omega)).mono fun e w' hp => hpost _ e w' hm hp
  | none =>
    have hL : dir K.files = [] := by
      have hmap := h.map
      rw [hm] at hmap
      rcases hmap with ⟨_, h2⟩ | ⟨b, D, h2, _⟩
      · exact h2
      · cases h2
    refine (create_none w d s h.blk (by show some (Value.map K.m) = _; rw [hm]) (by omega)).mono fun e w' hp => hpost none e w' hm ?_
    rw [hL]
    exact hp
theorem errn_size {on : Bool} {n : Nat} (h : errn on n = 0) : 1 ≤ n ∧ n ≤ 40 := by
  have hon := errn_on h
  subst hon
  unfold errn at h
  rw [if_neg (by decide)] at h
  by_cases hc : n < 1 ∨ 40 < n
  · rw [if_pos hc] at h; exact absurd h (by decide)
  · omega

theorem DiskAt.write {w : World} {d : Nat} {K : Dk} (h : DiskAt w d K) (s : ByteArray) (i : Int) (data : ByteArray) (hs : s.size ≤ maxLen) (hl : K.left ≤ 9223372036854775807) (ht : K.turn < 9000) :
    Calls Tryz.prog 18 #[.pointer (some ⟨d, 0, none⟩), .string s, .int .i64 i, .string data] w (WritePost w d K s i data) := by
  by_cases he : errn K.on s.size ≠ 0
  · have e : writeE K s i data.size = errn K.on s.size := by unfold writeE; rw [if_pos he]
    exact (write_err1 h s i data he).mono fun e' w' ⟨h1, h2⟩ => .inl ⟨by rw [e]; exact he, by rw [e]; exact h1, h2⟩
  have he : errn K.on s.size = 0 := Decidable.not_not.1 he
  have hon := errn_on he
  obtain ⟨hs1, hs2⟩ := errn_size he
  obtain ⟨p, hp⟩ := ptr_shape ((getF K.files s.data.toList).map (·.b))
  have hW := h.wfacts s he hs hp
  by_cases hd : data.size ≠ 256
  · have e : writeE K s i data.size = 1 := by unfold writeE; rw [if_neg (by simpa using he), if_pos hd]
    exact (write_err2 s i data hW hd).mono fun e' w' ⟨h1, h2⟩ => .inl ⟨by rw [e]; decide, by rw [e]; exact h1, h2⟩
  have hd : data.size = 256 := Decidable.not_not.1 hd
  by_cases hi : i < 0 ∨ (sizeN K.files s.data.toList : Int) < i ∨ 4000 < i
  · have e : writeE K s i data.size = 15 := by unfold writeE; rw [if_neg (by simpa using he), if_neg (by simpa using hd), if_pos hi]
    exact (write_err3 s i data hW hd hi).mono fun e' w' ⟨h1, h2⟩ => .inl ⟨by rw [e]; decide, by rw [e]; exact h1, h2⟩
  obtain ⟨j, rfl⟩ : ∃ j : Nat, i = (j : Int) := ⟨i.toNat, by omega⟩
  have hj : j ≤ sizeN K.files s.data.toList := by omega
  have hj2 : j ≤ 4000 := by omega
  have e0 : writeE K s j data.size = if (j : Int) = (sizeN K.files s.data.toList : Int) ∧ fullOf K = true then 20 else if getF K.files s.data.toList = none ∧ 60 ≤ K.files.length then 20 else 0 := by
    unfold writeE; rw [if_neg (by simpa using he), if_neg (by simpa using hd), if_neg hi]
  by_cases hf : (j : Int) = (sizeN K.files s.data.toList : Int) ∧ fullOf K = true
  · rw [if_pos hf] at e0
    have hjz : j = sizeN K.files s.data.toList := by omega
    rw [hjz] at hj2 ⊢
    rw [hjz] at e0
    exact (write_err4 h s data hW hd hj2 hf.2).mono fun e' w' ⟨h1, h2⟩ => .inl ⟨by rw [e0]; decide, by rw [e0]; exact h1, h2⟩
  rw [if_neg hf] at e0
  have hok : ∀ e w', OkPost w d K s.data.toList j data e w' → writeE K s j data.size = 0 → WritePost w d K s j data e w' := fun e w' hp h0 => .inr ⟨h0, by rw [Int.toNat_natCast]; exact hp⟩
  cases hg : getF K.files s.data.toList with
  | none =>
    have hz : sizeN K.files s.data.toList = 0 := by unfold sizeN; rw [hg]
    rw [hz] at hj hW hf
    obtain rfl : j = 0 := by omega
    have hfu : fullOf K = false := by
      cases hfu : fullOf K with
      | false => rfl
      | true => exact absurd ⟨rfl, hfu⟩ hf
    have hp2 : p = none := by rw [hg] at hp; simpa [ptr] using hp.symm
    subst hp2
    by_cases h60 : 60 ≤ K.files.length
    · rw [if_pos ⟨hg, h60⟩] at e0
      exact (write_err5 h s data hW hd hfu h60).mono fun e' w' ⟨h1, h2⟩ => .inl ⟨by rw [e0]; decide, by rw [e0]; exact h1, h2⟩
    · rw [if_neg (fun hx => h60 hx.2)] at e0
      refine (write_fresh h s data hW hd hfu (by omega) ht (fun W hWb => ?_)).mono fun e w' hp => hok e w' hp e0
      refine ((h.below hWb).create s hg (by omega) hs2).mono ?_
      rintro e w' ⟨b, m, rfl, hst⟩
      have hst2 : Step w d K w' { K with m := m, files := (s.data.toList, Fl.fresh b) :: K.files } := (Step.below h hWb).trans hst
      have hre : restF ((s.data.toList, Fl.fresh b) :: K.files) s.data.toList = restF K.files s.data.toList := by
        unfold restF
        rw [List.filter_cons_of_neg (by simp)]
      exact ⟨b, rfl, DiskAt.wend (F := Fl.fresh b) hst2 ⟨m, _, rfl, hre⟩ (by simp) (.inr ⟨hg, b, rfl⟩) (Nat.zero_le _) hj2 hd hon hl ht⟩
  | some F =>
    have hz : sizeN K.files s.data.toList = F.secs.length := by unfold sizeN; rw [hg]
    rw [if_neg (fun hx => by rw [hg] at hx; cases hx.1)] at e0
    have hp2 : p = some ⟨F.b, 0, none⟩ := by rw [hg] at hp; simpa [ptr] using hp.symm
    subst hp2
    have hm := getF_mem hg
    have hE : ∀ W0, Below w.heap.size w W0 → WEnd w d K s.data.toList j data F.b W0 := fun W0 hW0 =>
      DiskAt.wend (F := F) (Step.below h hW0) ⟨K.m, K.files, rfl, rfl⟩ hm (.inl hg) (by omega) hj2 hd hon hl ht
    by_cases hjz : j = sizeN K.files s.data.toList
    · have hfu : fullOf K = false := by
        cases hfu : fullOf K with
        | false => rfl
        | true => exact absurd ⟨by omega, hfu⟩ hf
      subst hjz
      exact (write_behind h s F.b data hW hd hj2 hfu ht hE).mono fun e w' hp => hok e w' hp e0
    · exact (write_over s j F.b data hW hd (by omega) hj2 ht (hE _ (below_new _ _))).mono fun e w' hp => hok e w' hp e0

theorem new_disk (w : World) (room : Int) : Calls Tryz.prog 6 #[.int .i64 room] w fun e w' => e = .returned (.pointer (some ⟨w.heap.size, 0, none⟩)) ∧ Below w.heap.size w w' ∧ w'.heap[w.heap.size]? = some (.cells #[.map none, .bool true, .int .i64 room, .int .i64 0, .bool false, .int .i64 0, .slice none 0 0] 67 (0, 0)) := by
  go_enter Tryz.func6, Tryz.ntmps6
  go_wp2
  go_ret
  exact ⟨rfl, below_new _ _, heap_alloc_new w _⟩
def Dk.new (room : Int) : Dk := ⟨none, [], true, room, 0, false, 0, .slice none 0 0, []⟩
theorem new_at_disk {w : World} {d : Nat} {room : Int} (h : w.heap[d]? = some (.cells #[.map none, .bool true, .int .i64 room, .int .i64 0, .bool false, .int .i64 0, .slice none 0 0] 67 (0, 0))) : DiskAt w d (Dk.new room) :=
  ⟨h, World.ownsRow_nil _ _ _ _, .inl ⟨rfl, rfl⟩, ⟨fun p hp => by simp [Dk.new] at hp, fun p hp => by simp [Dk.new] at hp, List.nodup_nil, List.Pairwise.nil, Nat.zero_le _, fun p hp => by simp [Dk.new] at hp, List.nodup_nil⟩, fun x hx => by simp [Dk.new, allW] at hx, fun x hx => by simp [Dk.new, allW] at hx, ⟨Nat.le_refl _, by simp [Dk.new]⟩⟩

theorem DiskAt.restore {w : World} {d : Nat} {K : Dk} (h : DiskAt w d K) : Calls Tryz.prog 20 #[.pointer (some ⟨d, 0, none⟩)] w fun e w' => e = .returned (.tuple #[]) ∧ Step w d K w' { K with on := true } := by
  have c1 := cell_at h.blk 1
  have c1 : w.cell? ⟨d, 1, none⟩ = some (.bool K.on) := c1
  have f1 := free_at h.blk 1
  have HS : Hid (Step w d K (w.setCell ⟨d, 1, none⟩ (.bool true)) { K with on := true }) := .own h ((Only.refl d w).setCell 1 _) (set_at h.blk 1 _) rfl rfl ⟨rfl, rfl⟩ (Nat.le_refl _) h.many.2
  clear h
  go_enter Tryz.func20, Tryz.ntmps20
  go_wp2
  go_end0
  exact ⟨rfl, HS.out⟩
theorem restore_nil (w : World) : Calls Tryz.prog 20 #[.pointer none] w fun e w' => e = .returned (.tuple #[]) ∧ w = w' := by
  go_enter Tryz.func20, Tryz.ntmps20
  go_wp2
  go_end0
  exact ⟨rfl, rfl⟩

end Go.Proofs.YtaabepiddbnggaaGreat.P4
