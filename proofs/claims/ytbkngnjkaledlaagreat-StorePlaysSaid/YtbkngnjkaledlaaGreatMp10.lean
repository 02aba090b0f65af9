/-
  Texts of the proof of SaidPlay8b.
-/
import Derived.Test.YtbkngnjkaledlaaGreatMp09
set_option maxHeartbeats 8000000
set_option maxRecDepth 100000
namespace Go.Proofs.YtbkngnjkaledlaaGreat.P4
open Go Go.RowKit Go.Lib Go.Maps Go.ChangeMaps Go.MapKept P3
def sizeN (L : Files) (n : List UInt8) : Nat := match getF L n with | none => 0 | some F => F.secs.length
def writeE (K : Dk) (s : ByteArray) (i : Int) (dsz : Nat) : Int :=
 if errn K.on s.size ≠ 0 then errn K.on s.size
 else if dsz ≠ 256 then 1
 else if i < 0 ∨ (sizeN K.files s.data.toList : Int) < i ∨ 4000 < i then 15
 else if i = (sizeN K.files s.data.toList : Int) ∧ fullOf K = true then 20
 else if getF K.files s.data.toList = none ∧ 60 ≤ K.files.length then 20
 else 0
def Written (K : Dk) (n : List UInt8) (i : Nat) (data : ByteArray) (K1 : Dk) : Prop :=
 ∃ m sl b F, (getF K.files n = some F ∨ getF K.files n = none ∧ ∃ b0, F = Fl.fresh b0) ∧ K1 = { K with m := m, turn := K.turn + 1, files := (n, F.write sl b (K.turn + 1) i data) :: restF K.files n }
def WritePost (w : World) (d : Nat) (K : Dk) (s : ByteArray) (i : Int) (data : ByteArray) (e : Ending) (w' : World) : Prop :=
 (writeE K s i data.size ≠ 0 ∧ e = .returned (.int .i64 (writeE K s i data.size)) ∧ Below w.heap.size w w') ∨
 (writeE K s i data.size = 0 ∧ ∃ w1 K1, Step w d K w1 K1 ∧ Written K s.data.toList i.toNat data K1 ∧ CountPost w1 d K1 e w')
theorem write_err1 {w : World} {d : Nat} {K : Dk} (h : DiskAt w d K) (s : ByteArray) (i : Int) (data : ByteArray) (he : errn K.on s.size ≠ 0) :
  Calls Tryz.prog 41 #[.pointer (some ⟨d, 0, none⟩), .string s, .int .i64 i, .string data] w fun e w' => e = .returned (.int .i64 (errn K.on s.size)) ∧ Below w.heap.size w w' := by
 have hd := lt_of_block h.blk
 have HC : Hid (Calls Tryz.prog 92 #[.pointer (some ⟨d, 0, none⟩), .slice (some ⟨w.heap.size, 0, none⟩) 1 1] (w.alloc (.cells #[.string s] 9)) fun e w' => e = .returned (.int .i64 (errn K.on s.size)) ∧ w.alloc (.cells #[.string s] 9) = w') :=
  check1 _ d w.heap.size s K.on (cell_at (old_alloc h.blk _) 1) (by rw [cell_at (new_at w _ _)]; rfl)
 have hne : (errn K.on s.size != 0) = true := by simpa using he
 generalize errn K.on s.size = z at *
 clear h he
 go_enter Tryz.func41, Tryz.ntmps41
 go_wp2_with (go_at_call 92; (with_reducible refine HC.out.mono ?_); rintro e w' ⟨rfl, rfl⟩)
 go_ret
 exact ⟨rfl, below_new _ _⟩
structure WFacts (w : World) (d : Nat) (K : Dk) (s : ByteArray) (p : Option Addr) (z : Nat) : Prop where
 check : Calls Tryz.prog 92 #[.pointer (some ⟨d, 0, none⟩), .slice (some ⟨w.heap.size, 0, none⟩) 1 1] (w.alloc (.cells #[.string s] 9)) fun e w' => e = .returned (.int .i64 0) ∧ w.alloc (.cells #[.string s] 9) = w'
 c0 : (w.alloc (.cells #[.string s] 9)).cell? ⟨d, 0, none⟩ = some (.map K.m)
 look : (Instr.lookup 71 (.map K.m) (.string s) false).run Tryz.prog (w.alloc (.cells #[.string s] 9)) = .ok (.pointer p) (w.alloc (.cells #[.string s] 9))
 size : Calls Tryz.prog 93 #[.pointer p] (w.alloc (.cells #[.string s] 9)) fun e w' => e = .returned (.int .i64 z) ∧ w.alloc (.cells #[.string s] 9) = w'
theorem DiskAt.wfacts {w : World} {d : Nat} {K : Dk} (h : DiskAt w d K) (s : ByteArray) (he : errn K.on s.size = 0) (hs : s.size ≤ maxLen) {p : Option Addr} (hp : ptr ((getF K.files s.data.toList).map (·.b)) = .pointer p) : WFacts w d K s p (sizeN K.files s.data.toList) := by
 have hb := below_new w (.cells #[.string s] 9)
 have h2 := h.below hb
 refine ⟨?_, cell_at h2.blk 0, ?_, ?_⟩
 ·have := check1 (w.alloc (.cells #[.string s] 9)) d w.heap.size s K.on (cell_at h2.blk 1) (by rw [cell_at (new_at w _ _)]; rfl)
  rw [he] at this
  exact this
 ·rw [← hp, ← lk_dir]
  exact h2.map.look (by rw [dir_names]; exact h.files.names) hs
 ·rw [← hp]
  exact size_file h2.files.at' s.data.toList
theorem write_err2 {w : World} {d : Nat} {K : Dk} (s : ByteArray) (i : Int) (data : ByteArray) {p : Option Addr} {z : Nat} (h : WFacts w d K s p z) (hd : data.size ≠ 256) :
  Calls Tryz.prog 41 #[.pointer (some ⟨d, 0, none⟩), .string s, .int .i64 i, .string data] w fun e w' => e = .returned (.int .i64 1) ∧ Below w.heap.size w w' := by
 have HC := Lib.hid h.check
 have HS := Lib.hid h.size
 have c0 := h.c0
 have hl := h.look
 have k1 : ((data.size : Int) != 256) = true := by simp; omega
 clear h
 go_enter Tryz.func41, Tryz.ntmps41
 go_wp2_with (first
  | (go_at_call 92; (with_reducible refine HC.out.mono ?_); rintro e w' ⟨rfl, rfl⟩)
  | (go_at_call 93; (with_reducible refine HS.out.mono ?_); rintro e w' ⟨rfl, rfl⟩))
 go_ret
 exact ⟨rfl, below_new _ _⟩
theorem write_err3 {w : World} {d : Nat} {K : Dk} (s : ByteArray) (i : Int) (data : ByteArray) {p : Option Addr} {z : Nat} (h : WFacts w d K s p z) (hd : data.size = 256) (hi : i < 0 ∨ (z : Int) < i ∨ 4000 < i) :
  Calls Tryz.prog 41 #[.pointer (some ⟨d, 0, none⟩), .string s, .int .i64 i, .string data] w fun e w' => e = .returned (.int .i64 15) ∧ Below w.heap.size w w' := by
 have HC := Lib.hid h.check
 have HS := Lib.hid h.size
 have c0 := h.c0
 have hl := h.look
 have k1 : ((data.size : Int) != 256) = false := by simp; omega
 clear h hd
 by_cases h1 : i < 0
 ·have q1 : decide (i < 0) = true := decide_eq_true h1
  go_enter Tryz.func41, Tryz.ntmps41
  go_wp2_with (first
   | (go_at_call 92; (with_reducible refine HC.out.mono ?_); rintro e w' ⟨rfl, rfl⟩)
   | (go_at_call 93; (with_reducible refine HS.out.mono ?_); rintro e w' ⟨rfl, rfl⟩))
  go_ret
  exact ⟨rfl, below_new _ _⟩
 ·have q1 : decide (i < 0) = false := decide_eq_false h1
  by_cases h2 : (z : Int) < i
  ·have q2 : decide ((z : Int) < i) = true := decide_eq_true h2
   go_enter Tryz.func41, Tryz.ntmps41
   go_wp2_with (first
    | (go_at_call 92; (with_reducible refine HC.out.mono ?_); rintro e w' ⟨rfl, rfl⟩)
    | (go_at_call 93; (with_reducible refine HS.out.mono ?_); rintro e w' ⟨rfl, rfl⟩))
   go_ret
   exact ⟨rfl, below_new _ _⟩
  ·have q2 : decide ((z : Int) < i) = false := decide_eq_false h2
   have h3 : 4000 < i := by omega
   have q3 : decide (4000 < i) = true := decide_eq_true h3
   go_enter Tryz.func41, Tryz.ntmps41
   go_wp2_with (first
    | (go_at_call 92; (with_reducible refine HC.out.mono ?_); rintro e w' ⟨rfl, rfl⟩)
    | (go_at_call 93; (with_reducible refine HS.out.mono ?_); rintro e w' ⟨rfl, rfl⟩))
   go_ret
   exact ⟨rfl, below_new _ _⟩
theorem DiskAt.wfull {w : World} {d : Nat} {K : Dk} (h : DiskAt w d K) (s : ByteArray) : Calls Tryz.prog 94 #[.pointer (some ⟨d, 0, none⟩)] (w.alloc (.cells #[.string s] 9)) fun e w' => e = .returned (.bool (fullOf K)) ∧ Below w.heap.size w w' :=
 (h.below (below_new w _)).full.mono fun _ _ ⟨h1, h2⟩ => ⟨h1, thenBelow (below_new w _) h2⟩
theorem write_err4 {w : World} {d : Nat} {K : Dk} (hD : DiskAt w d K) (s : ByteArray) (data : ByteArray) {p : Option Addr} {z : Nat} (h : WFacts w d K s p z) (hd : data.size = 256) (hz : z ≤ 4000) (hf : fullOf K = true) :
  Calls Tryz.prog 41 #[.pointer (some ⟨d, 0, none⟩), .string s, .int .i64 z, .string data] w fun e w' => e = .returned (.int .i64 20) ∧ Below w.heap.size w w' := by
 have HC := Lib.hid h.check
 have HS := Lib.hid h.size
 have c0 := h.c0
 have hl := h.look
 have HF := hD.wfull s
 rw [hf] at HF
 have HF := Lib.hid HF
 have k1 : ((data.size : Int) != 256) = false := by simp; omega
 have b1 : (0 : Int) ≤ (z : Int) := by omega
 have b2 : (z : Int) ≤ 4000 := by omega
 clear h hd hD hf
 go_enter Tryz.func41, Tryz.ntmps41
 go_wp2_with (first
  | (go_at_call 92; (with_reducible refine HC.out.mono ?_); rintro e w' ⟨rfl, rfl⟩)
  | (go_at_call 93; (with_reducible refine HS.out.mono ?_); rintro e w' ⟨rfl, rfl⟩)
  | (go_at_call 94; (with_reducible refine HF.out.mono ?_); rintro e w' ⟨rfl, hb⟩; have HB := Lib.hid hb; clear hb))
 go_ret
 exact ⟨rfl, HB.out⟩
theorem write_err5 {w : World} {d : Nat} {K : Dk} (hD : DiskAt w d K) (s : ByteArray) (data : ByteArray) (h : WFacts w d K s none 0) (hd : data.size = 256) (hf : fullOf K = false) (hl60 : 60 ≤ K.files.length) :
  Calls Tryz.prog 41 #[.pointer (some ⟨d, 0, none⟩), .string s, .int .i64 0, .string data] w fun e w' => e = .returned (.int .i64 20) ∧ Below w.heap.size w w' := by
 have HC := Lib.hid h.check
 have HS := Lib.hid h.size
 have c0 := h.c0
 have hl := h.look
 have HF := hD.wfull s
 rw [hf] at HF
 have HF := Lib.hid HF
 have HL : Hid (∀ W, Below w.heap.size w W → W.cell? ⟨d, 0, none⟩ = some (.map K.m) ∧ ∀ ty, (Builtin.len_ #[71] ty #[.map K.m]).run Tryz.prog W = .ok (.int .i64 (dir K.files).length) W) := fun W hW => ⟨cell_at (hD.below hW).blk 0, fun ty => (hD.below hW).map.len ty⟩
 obtain ⟨nl, hnl⟩ : ∃ nl, nl = (dir K.files).length := ⟨_, rfl⟩
 rw [← hnl] at HL
 have b60 : (60 : Int) ≤ (nl : Int) := by rw [hnl]; simp [dir]; omega
 have k1 : ((data.size : Int) != 256) = false := by simp; omega
 clear h hd hD hf hnl hl60
 go_enter Tryz.func41, Tryz.ntmps41
 go_wp2_with (first
  | (go_at_call 92; (with_reducible refine HC.out.mono ?_); rintro e w' ⟨rfl, rfl⟩)
  | (go_at_call 93; (with_reducible refine HS.out.mono ?_); rintro e w' ⟨rfl, rfl⟩)
  | (go_at_call 94; (with_reducible refine HF.out.mono ?_); rintro e w' ⟨rfl, hb⟩; obtain ⟨q0, ql⟩ := HL.out w' hb; have HB := Lib.hid hb; clear hb))
 go_ret
 exact ⟨rfl, HB.out⟩
def OkPost (w : World) (d : Nat) (K : Dk) (n : List UInt8) (i : Nat) (data : ByteArray) (e : Ending) (w' : World) : Prop := ∃ w1 K1, Step w d K w1 K1 ∧ Written K n i data K1 ∧ CountPost w1 d K1 e w'
structure WEnd (w : World) (d : Nat) (K : Dk) (n : List UInt8) (i : Nat) (data : ByteArray) (fb : Nat) (W0 : World) : Prop where
 c3 : W0.cell? ⟨d, 3, none⟩ = some (.int .i64 K.turn)
 f3 : W0.frozen? ⟨d, 3, none⟩ = false
 lt : d < W0.heap.size
 write : ∀ W, Below (W0.setCell ⟨d, 3, none⟩ (.int .i64 ((K.turn : Int) + 1))).heap.size (W0.setCell ⟨d, 3, none⟩ (.int .i64 ((K.turn : Int) + 1))) W →
  Calls Tryz.prog 96 #[.pointer (some ⟨fb, 0, none⟩), .int .i64 ((K.turn : Int) + 1), .int .i64 i, .string data] W fun e w' => e = .returned (.tuple #[]) ∧ w'.cell? ⟨d, 3, none⟩ = some (.int .i64 ((K.turn : Int) + 1)) ∧ Calls Tryz.prog 97 #[.pointer (some ⟨d, 0, none⟩)] w' (OkPost w d K n i data)
theorem DiskAt.wend {w W0 : World} {d : Nat} {K K0 : Dk} {n : List UInt8} {i : Nat} {data : ByteArray} {F : Fl} (hS : Step w d K W0 K0) (hK0 : ∃ m L, K0 = { K with m := m, files := L } ∧ restF L n = restF K.files n) (hm : (n, F) ∈ K0.files) (hF : getF K.files n = some F ∨ getF K.files n = none ∧ ∃ b0, F = Fl.fresh b0)
  (hi : i ≤ F.secs.length) (hi2 : i ≤ 4000) (hd : data.size = 256) (hon : K.on = true) (hl : K.left ≤ 9223372036854775807) (ht : K.turn < 9000) : WEnd w d K n i data F.b W0 := by
 obtain ⟨m, L, rfl, hrs⟩ := hK0
 have h0 := hS.at'
 refine ⟨cell_at h0.blk 3, free_at h0.blk 3, lt_of_block h0.blk, fun W hW => ?_⟩
 have h1 : Step W0 d { K with m := m, files := L } (W0.setCell ⟨d, 3, none⟩ (.int .i64 ((K.turn : Int) + 1))) { K with m := m, files := L, turn := K.turn + 1 } :=
  .own h0 ((Only.refl d W0).setCell 3 _) (set_at h0.blk 3 _) rfl rfl ⟨rfl, rfl⟩ (Nat.le_succ _) ht
 have h2 := h1.at'.below hW
 have hlt : ∀ x ∈ allW L, x.turn < K.turn + 1 := fun x hx => Nat.lt_succ_of_le (h0.turns x hx)
 have hcn : (allW L).length < K.turn + 1 := Nat.lt_succ_of_le h0.many.1
 have hFw : F.ws.length < 10000 := by
  have h5 : F.ws.length ≤ (allW L).length := by
   have := (allW_perm (rest_perm h0.files.names hm)).length_eq
   rw [allW_cons, List.length_append] at this
   have h6 : (allW L).length = F.ws.length + (allW (restF L n)).length := this
   omega
  omega
 refine (FileAt.write (h2.files.at' _ hm) (h2.files.ok _ hm) (K.turn + 1) i data hi hFw).mono ?_
 rintro e w' ⟨rfl, sl, b, hW2⟩
 have h3 := h2.wrote (K := { K with m := m, files := L, turn := K.turn + 1 }) hm hlt hcn hi hi2 hd hW2
 have h4 : Step w d K w' { K with m := m, turn := K.turn + 1, files := (n, F.write sl b (K.turn + 1) i data) :: restF L n } := ((hS.trans h1).trans (.below h1.at' hW)).trans h3
 refine ⟨rfl, cell_at h4.at'.blk 3, (h4.at'.count hon hl).mono fun e w' hc => ⟨_, _, h4, ⟨m, sl, b, F, hF, by rw [hrs]⟩, hc⟩⟩
theorem write_over {w : World} {d : Nat} {K : Dk} (s : ByteArray) (i fb : Nat) (data : ByteArray) {z : Nat} (h : WFacts w d K s (some ⟨fb, 0, none⟩) z) (hd : data.size = 256) (hi : i < z) (hi2 : i ≤ 4000) (ht : K.turn < 9000) (hE : WEnd w d K s.data.toList i data fb (w.alloc (.cells #[.string s] 9))) :
  Calls Tryz.prog 41 #[.pointer (some ⟨d, 0, none⟩), .string s, .int .i64 i, .string data] w (OkPost w d K s.data.toList i data) := by
 have HC := Lib.hid h.check
 have HS := Lib.hid h.size
 have c0 := h.c0
 have hl := h.look
 have c3 := hE.c3
 have f3 := hE.f3
 have hlt := hE.lt
 have HE := Lib.hid hE.write
 have HCl : Hid (∀ W, Calls Tryz.prog 32 #[.string data] W fun e w' => e = .returned (.string data) ∧ Below W.heap.size W w') := fun W => clone_any data W (by omega)
 have HB : Hid (∀ w3, Below (((w.alloc (.cells #[.string s] 9)).setCell ⟨d, 3, none⟩ (.int .i64 ((K.turn : Int) + 1))).drew).heap.size (((w.alloc (.cells #[.string s] 9)).setCell ⟨d, 3, none⟩ (.int .i64 ((K.turn : Int) + 1))).drew) w3 → Below ((w.alloc (.cells #[.string s] 9)).setCell ⟨d, 3, none⟩ (.int .i64 ((K.turn : Int) + 1))).heap.size ((w.alloc (.cells #[.string s] 9)).setCell ⟨d, 3, none⟩ (.int .i64 ((K.turn : Int) + 1))) w3 ∧ w3.cell? ⟨d, 3, none⟩ = some (.int .i64 ((K.turn : Int) + 1))) := fun w3 hb => by
  have hb2 : Below ((w.alloc (.cells #[.string s] 9)).setCell ⟨d, 3, none⟩ (.int .i64 ((K.turn : Int) + 1))).heap.size ((w.alloc (.cells #[.string s] 9)).setCell ⟨d, 3, none⟩ (.int .i64 ((K.turn : Int) + 1))) w3 := thenBelow ((Below.refl _ _).drew) hb
  refine ⟨hb2, ?_⟩
  rw [hb2.cell (p := ⟨d, 3, none⟩) (by simpa [World.setCell] using hlt)]
  exact World.cell?_setCell_same _ _ _ c3
 have k1 : ((data.size : Int) != 256) = false := by simp; omega
 have b1 : (i : Int) < (z : Int) := by omega
 have b2 : (i : Int) ≤ 4000 := by omega
 have b3 : (0 : Int) ≤ (i : Int) := by omega
 have k2 : ((i : Int) == (z : Int)) = false := by simp; omega
 have t3 := World.cell?_setCell_same (w.alloc (.cells #[.string s] 9)) ⟨d, 3, none⟩ (.int .i64 ((K.turn : Int) + 1)) c3
 have bt : (K.turn : Int) < 9000 := by omega
 generalize K.turn = T at *
 clear h hd hE
 go_enter Tryz.func41, Tryz.ntmps41
 go_wp2_with (first
  | (go_at_call 92; (with_reducible refine HC.out.mono ?_); rintro e w' ⟨rfl, rfl⟩)
  | (go_at_call 93; (with_reducible refine HS.out.mono ?_); rintro e w' ⟨rfl, rfl⟩))
 go_region_held3 (fun w' => w'.cell? ⟨d, 3, none⟩ = some (.int .i64 ((T : Int) + 1))) (first | exact t3 | exact t4 | exact t5)
  ((first
   | (go_at_call 32; (with_reducible refine (HCl.out _).mono ?_); rintro e w3 ⟨rfl, hb3⟩; obtain ⟨hb4, t4⟩ := HB.out _ hb3)
   | (go_at_call 96; (with_reducible refine (HE.out _ hb4).mono ?_); rintro e w5 ⟨rfl, t5, hct⟩; have HCt := Lib.hid hct; clear hct)))
 all_goals
  go_wp2_with (go_at_call 97; (with_reducible refine HCt.out.mono ?_); rintro e w6 ⟨w1, K1, hs1, hw1, n, K2, rfl, hcnt⟩; have HFin : Hid (OkPost w d K s.data.toList i data (.returned (.int .i64 n)) w6) := ⟨w1, K1, hs1, hw1, n, K2, rfl, hcnt⟩; clear hs1 hw1 hcnt)
  go_ret
  exact HFin.out
theorem WEnd.clone {w W0 : World} {d : Nat} {K : Dk} {n : List UInt8} {i fb : Nat} {data : ByteArray} (h : WEnd w d K n i data fb W0) : ∀ w3, Below ((W0.setCell ⟨d, 3, none⟩ (.int .i64 ((K.turn : Int) + 1))).drew).heap.size ((W0.setCell ⟨d, 3, none⟩ (.int .i64 ((K.turn : Int) + 1))).drew) w3 →
  Below (W0.setCell ⟨d, 3, none⟩ (.int .i64 ((K.turn : Int) + 1))).heap.size (W0.setCell ⟨d, 3, none⟩ (.int .i64 ((K.turn : Int) + 1))) w3 ∧ w3.cell? ⟨d, 3, none⟩ = some (.int .i64 ((K.turn : Int) + 1)) := fun w3 hb => by
 have hb2 : Below (W0.setCell ⟨d, 3, none⟩ (.int .i64 ((K.turn : Int) + 1))).heap.size (W0.setCell ⟨d, 3, none⟩ (.int .i64 ((K.turn : Int) + 1))) w3 := thenBelow ((Below.refl _ _).drew) hb
 refine ⟨hb2, ?_⟩
 rw [hb2.cell (p := ⟨d, 3, none⟩) (by simpa [World.setCell] using h.lt)]
 exact World.cell?_setCell_same _ _ _ h.c3
theorem write_behind {w : World} {d : Nat} {K : Dk} (hD : DiskAt w d K) (s : ByteArray) (fb : Nat) (data : ByteArray) {z : Nat} (h : WFacts w d K s (some ⟨fb, 0, none⟩) z) (hd : data.size = 256) (hi2 : z ≤ 4000) (hf : fullOf K = false) (ht : K.turn < 9000) (hE : ∀ W0, Below w.heap.size w W0 → WEnd w d K s.data.toList z data fb W0) :
  Calls Tryz.prog 41 #[.pointer (some ⟨d, 0, none⟩), .string s, .int .i64 z, .string data] w (OkPost w d K s.data.toList z data) := by
 have HC := Lib.hid h.check
 have HS := Lib.hid h.size
 have c0 := h.c0
 have hl := h.look
 have HF := hD.wfull s
 rw [hf] at HF
 have HF := Lib.hid HF
 have HE := Lib.hid hE
 have HCl : Hid (∀ W, Calls Tryz.prog 32 #[.string data] W fun e w' => e = .returned (.string data) ∧ Below W.heap.size W w') := fun W => clone_any data W (by omega)
 have k1 : ((data.size : Int) != 256) = false := by simp; omega
 have b2 : (z : Int) ≤ 4000 := by omega
 have b3 : (0 : Int) ≤ (z : Int) := by omega
 have bt : (K.turn : Int) < 9000 := by omega
 generalize hT : K.turn = T at *
 have HT := Lib.hid hT
 clear h hd hE hD hf hT
 go_enter Tryz.func41, Tryz.ntmps41
 go_wp2_with (first
  | (go_at_call 92; (with_reducible refine HC.out.mono ?_); rintro e w' ⟨rfl, rfl⟩)
  | (go_at_call 93; (with_reducible refine HS.out.mono ?_); rintro e w' ⟨rfl, rfl⟩)
  | (go_at_call 94; (with_reducible refine HF.out.mono ?_); rintro e w2 ⟨rfl, hb⟩; have hwe := HE.out w2 hb; have c3 := hwe.c3; rw [HT.out] at c3; have f3 := hwe.f3; have hlt := hwe.lt; have HWE := Lib.hid hwe; have t3 := World.cell?_setCell_same w2 ⟨d, 3, none⟩ (.int .i64 ((T : Int) + 1)) c3; have HWr := hwe.write; rw [HT.out] at HWr; have HWr := Lib.hid HWr; have HB := hwe.clone; rw [HT.out] at HB; have HB := Lib.hid HB; clear hb hwe))
 go_region_held3 (fun w' => w'.cell? ⟨d, 3, none⟩ = some (.int .i64 ((T : Int) + 1))) (first | exact t3 | exact t4 | exact t5)
  ((first
   | (go_at_call 32; (with_reducible refine (HCl.out _).mono ?_); rintro e w3 ⟨rfl, hb3⟩; obtain ⟨hb4, t4⟩ := HB.out _ hb3)
   | (go_at_call 96; (with_reducible refine (HWr.out _ hb4).mono ?_); rintro e w5 ⟨rfl, t5, hct⟩; have HCt := Lib.hid hct; clear hct)))
 all_goals
  go_wp2_with (go_at_call 97; (with_reducible refine HCt.out.mono ?_); rintro e w6 ⟨w1, K1, hs1, hw1, n, K2, rfl, hcnt⟩; have HFin : Hid (OkPost w d K s.data.toList z data (.returned (.int .i64 n)) w6) := ⟨w1, K1, hs1, hw1, n, K2, rfl, hcnt⟩; clear hs1 hw1 hcnt)
  go_ret
  exact HFin.out
theorem write_fresh {w : World} {d : Nat} {K : Dk} (hD : DiskAt w d K) (s : ByteArray) (data : ByteArray) (h : WFacts w d K s none 0) (hd : data.size = 256) (hf : fullOf K = false) (h60 : K.files.length < 60) (ht : K.turn < 9000)
  (hM : ∀ W, Below w.heap.size w W → Calls Tryz.prog 95 #[.pointer (some ⟨d, 0, none⟩), .string s] W fun e w' => ∃ fb, e = .returned (.pointer (some ⟨fb, 0, none⟩)) ∧ WEnd w d K s.data.toList 0 data fb w') :
  Calls Tryz.prog 41 #[.pointer (some ⟨d, 0, none⟩), .string s, .int .i64 0, .string data] w (OkPost w d K s.data.toList 0 data) := by
 have HC := Lib.hid h.check
 have HS := Lib.hid h.size
 have c0 := h.c0
 have hl := h.look
 have HF := hD.wfull s
 rw [hf] at HF
 have HF := Lib.hid HF
 have HMk := Lib.hid hM
 have HCl : Hid (∀ W, Calls Tryz.prog 32 #[.string data] W fun e w' => e = .returned (.string data) ∧ Below W.heap.size W w') := fun W => clone_any data W (by omega)
 have HL : Hid (∀ W, Below w.heap.size w W → W.cell? ⟨d, 0, none⟩ = some (.map K.m) ∧ ∀ ty, (Builtin.len_ #[71] ty #[.map K.m]).run Tryz.prog W = .ok (.int .i64 (dir K.files).length) W) := fun W hW => ⟨cell_at (hD.below hW).blk 0, fun ty => (hD.below hW).map.len ty⟩
 obtain ⟨nl, hnl⟩ : ∃ nl, nl = (dir K.files).length := ⟨_, rfl⟩
 rw [← hnl] at HL
 have b60 : (nl : Int) < 60 := by rw [hnl]; simp [dir]; omega
 have k1 : ((data.size : Int) != 256) = false := by simp; omega
 have bt : (K.turn : Int) < 9000 := by omega
 generalize hT : K.turn = T at *
 have HT := Lib.hid hT
 clear h hd hM hD hf hT hnl h60
 go_enter Tryz.func41, Tryz.ntmps41
 go_wp2_with (first
  | (go_at_call 92; (with_reducible refine HC.out.mono ?_); rintro e w' ⟨rfl, rfl⟩)
  | (go_at_call 93; (with_reducible refine HS.out.mono ?_); rintro e w' ⟨rfl, rfl⟩)
  | (go_at_call 94; (with_reducible refine HF.out.mono ?_); rintro e w2 ⟨rfl, hb⟩; obtain ⟨q0, ql⟩ := HL.out w2 hb; have HBf := Lib.hid hb; clear hb)
  | (go_at_call 95; (with_reducible refine (HMk.out _ HBf.out).mono ?_); rintro e w4 ⟨fb, rfl, hwe⟩; have c3 := hwe.c3; rw [HT.out] at c3; have f3 := hwe.f3; have hlt := hwe.lt; have HWE := Lib.hid hwe; have t3 := World.cell?_setCell_same w4 ⟨d, 3, none⟩ (.int .i64 ((T : Int) + 1)) c3; have HWr := hwe.write; rw [HT.out, show (((0 : Nat) : Int)) = 0 from rfl] at HWr; have HWr := Lib.hid HWr; have HB := hwe.clone; rw [HT.out] at HB; have HB := Lib.hid HB; clear hwe))
 go_region_held3 (fun w' => w'.cell? ⟨d, 3, none⟩ = some (.int .i64 ((T : Int) + 1))) (first | exact t3 | exact t4 | exact t5)
  ((first
   | (go_at_call 32; (with_reducible refine (HCl.out _).mono ?_); rintro e w3 ⟨rfl, hb3⟩; obtain ⟨hb4, t4⟩ := HB.out _ hb3)
   | (go_at_call 96; (with_reducible refine (HWr.out _ hb4).mono ?_); rintro e w5 ⟨rfl, t5, hct⟩; have HCt := Lib.hid hct; clear hct)))
 all_goals
  go_wp2_with (go_at_call 97; (with_reducible refine HCt.out.mono ?_); rintro e w6 ⟨w1, K1, hs1, hw1, n, K2, rfl, hcnt⟩; have HFin : Hid (OkPost w d K s.data.toList 0 data (.returned (.int .i64 n)) w6) := ⟨w1, K1, hs1, hw1, n, K2, rfl, hcnt⟩; clear hs1 hw1 hcnt)
  go_ret
  exact HFin.out
theorem DiskAt.create {w : World} {d : Nat} {K : Dk} (h : DiskAt w d K) (s : ByteArray) (hg : getF K.files s.data.toList = none) (hlen : K.files.length < 60) (hs : s.size ≤ 40) :
  Calls Tryz.prog 95 #[.pointer (some ⟨d, 0, none⟩), .string s] w fun e w' => ∃ b m, e = .returned (.pointer (some ⟨b, 0, none⟩)) ∧ Step w d K w' { K with m := m, files := (s.data.toList, Fl.fresh b) :: K.files } := by
 have hn : (s.data.toList).length ≤ 40 := by rw [← Lib.size_eq]; exact hs
 have hpost : ∀ (m : Option Nat) (e : Ending) (w' : World), K.m = m → MadePost w d (dir K.files) s.data.toList m e w' → ∃ b m, e = .returned (.pointer (some ⟨b, 0, none⟩)) ∧ Step w d K w' { K with m := m, files := (s.data.toList, Fl.fresh b) :: K.files } := by
  rintro m e w' hm ⟨b, b2, rfl, h1, h2, h3, h4, h5, h6, h7⟩
  exact ⟨b, some b2, rfl, h.made hg hlen hn h1 h2 h3 (by rw [hm]; exact h4) (by rw [hm]; exact h6) (h7 _ h.blk)⟩
 cases hm : K.m with
 | some b =>
  have hmap := h.map
  rw [hm] at hmap
  exact (create_some w d b s (dir K.files) h.blk (by show some (Value.map K.m) = _; rw [hm]) hmap (by rw [dir_names]; exact h.files.names) (by have := h.files.few; simp [dir]; omega) (by omega)).mono fun e w' hp => hpost _ e w' hm hp
 | none =>
  have hL : dir K.files = [] := by
   have hmap := h.map
   rw [hm] at hmap
   rcases hmap with ⟨_, h2⟩ | ⟨b, D, h2, _⟩
   ·exact h2
   ·cases h2
  refine (create_none w d s h.blk (by show some (Value.map K.m) = _; rw [hm]) (by omega)).mono fun e w' hp => hpost none e w' hm ?_
  rw [hL]
  exact hp
theorem errn_size {on : Bool} {n : Nat} (h : errn on n = 0) : 1 ≤ n ∧ n ≤ 40 := by
 have hon := errn_on h
 subst hon
 unfold errn at h
 rw [if_neg (by decide)] at h
 by_cases hc : n < 1 ∨ 40 < n
 ·rw [if_pos hc] at h; exact absurd h (by decide)
 ·omega
theorem DiskAt.write {w : World} {d : Nat} {K : Dk} (h : DiskAt w d K) (s : ByteArray) (i : Int) (data : ByteArray) (hs : s.size ≤ maxLen) (hl : K.left ≤ 9223372036854775807) (ht : K.turn < 9000) :
  Calls Tryz.prog 41 #[.pointer (some ⟨d, 0, none⟩), .string s, .int .i64 i, .string data] w (WritePost w d K s i data) := by
 by_cases he : errn K.on s.size ≠ 0
 ·have e : writeE K s i data.size = errn K.on s.size := by unfold writeE; rw [if_pos he]
  exact (write_err1 h s i data he).mono fun e' w' ⟨h1, h2⟩ => .inl ⟨by rw [e]; exact he, by rw [e]; exact h1, h2⟩
 have he : errn K.on s.size = 0 := Decidable.not_not.1 he
 have hon := errn_on he
 obtain ⟨hs1, hs2⟩ := errn_size he
 obtain ⟨p, hp⟩ := ptr_shape ((getF K.files s.data.toList).map (·.b))
 have hW := h.wfacts s he hs hp
 by_cases hd : data.size ≠ 256
 ·have e : writeE K s i data.size = 1 := by unfold writeE; rw [if_neg (by simpa using he), if_pos hd]
  exact (write_err2 s i data hW hd).mono fun e' w' ⟨h1, h2⟩ => .inl ⟨by rw [e]; decide, by rw [e]; exact h1, h2⟩
 have hd : data.size = 256 := Decidable.not_not.1 hd
 by_cases hi : i < 0 ∨ (sizeN K.files s.data.toList : Int) < i ∨ 4000 < i
 ·have e : writeE K s i data.size = 15 := by unfold writeE; rw [if_neg (by simpa using he), if_neg (by simpa using hd), if_pos hi]
  exact (write_err3 s i data hW hd hi).mono fun e' w' ⟨h1, h2⟩ => .inl ⟨by rw [e]; decide, by rw [e]; exact h1, h2⟩
 obtain ⟨j, rfl⟩ : ∃ j : Nat, i = (j : Int) := ⟨i.toNat, by omega⟩
 have hj : j ≤ sizeN K.files s.data.toList := by omega
 have hj2 : j ≤ 4000 := by omega
 have e0 : writeE K s j data.size = if (j : Int) = (sizeN K.files s.data.toList : Int) ∧ fullOf K = true then 20 else if getF K.files s.data.toList = none ∧ 60 ≤ K.files.length then 20 else 0 := by
  unfold writeE; rw [if_neg (by simpa using he), if_neg (by simpa using hd), if_neg hi]
 by_cases hf : (j : Int) = (sizeN K.files s.data.toList : Int) ∧ fullOf K = true
 ·rw [if_pos hf] at e0
  have hjz : j = sizeN K.files s.data.toList := by omega
  rw [hjz] at hj2 ⊢
  rw [hjz] at e0
  exact (write_err4 h s data hW hd hj2 hf.2).mono fun e' w' ⟨h1, h2⟩ => .inl ⟨by rw [e0]; decide, by rw [e0]; exact h1, h2⟩
 rw [if_neg hf] at e0
 have hok : ∀ e w', OkPost w d K s.data.toList j data e w' → writeE K s j data.size = 0 → WritePost w d K s j data e w' := fun e w' hp h0 => .inr ⟨h0, by rw [Int.toNat_natCast]; exact hp⟩
 cases hg : getF K.files s.data.toList with
 | none =>
  have hz : sizeN K.files s.data.toList = 0 := by unfold sizeN; rw [hg]
  rw [hz] at hj hW hf
  obtain rfl : j = 0 := by omega
  have hfu : fullOf K = false := by
   cases hfu : fullOf K with
   | false => rfl
   | true => exact absurd ⟨rfl, hfu⟩ hf
  have hp2 : p = none := by rw [hg] at hp; simpa [ptr] using hp.symm
  subst hp2
  by_cases h60 : 60 ≤ K.files.length
  ·rw [if_pos ⟨hg, h60⟩] at e0
   exact (write_err5 h s data hW hd hfu h60).mono fun e' w' ⟨h1, h2⟩ => .inl ⟨by rw [e0]; decide, by rw [e0]; exact h1, h2⟩
  ·rw [if_neg (fun hx => h60 hx.2)] at e0
   refine (write_fresh h s data hW hd hfu (by omega) ht (fun W hWb => ?_)).mono fun e w' hp => hok e w' hp e0
   refine ((h.below hWb).create s hg (by omega) hs2).mono ?_
   rintro e w' ⟨b, m, rfl, hst⟩
   have hst2 : Step w d K w' { K with m := m, files := (s.data.toList, Fl.fresh b) :: K.files } := (Step.below h hWb).trans hst
   have hre : restF ((s.data.toList, Fl.fresh b) :: K.files) s.data.toList = restF K.files s.data.toList := by
    unfold restF
    rw [List.filter_cons_of_neg (by simp)]
   exact ⟨b, rfl, DiskAt.wend (F := Fl.fresh b) hst2 ⟨m, _, rfl, hre⟩ (by simp) (.inr ⟨hg, b, rfl⟩) (Nat.zero_le _) hj2 hd hon hl ht⟩
 | some F =>
  have hz : sizeN K.files s.data.toList = F.secs.length := by unfold sizeN; rw [hg]
  rw [if_neg (fun hx => by rw [hg] at hx; cases hx.1)] at e0
  have hp2 : p = some ⟨F.b, 0, none⟩ := by rw [hg] at hp; simpa [ptr] using hp.symm
  subst hp2
  have hm := getF_mem hg
  have hE : ∀ W0, Below w.heap.size w W0 → WEnd w d K s.data.toList j data F.b W0 := fun W0 hW0 =>
   DiskAt.wend (F := F) (Step.below h hW0) ⟨K.m, K.files, rfl, rfl⟩ hm (.inl hg) (by omega) hj2 hd hon hl ht
  by_cases hjz : j = sizeN K.files s.data.toList
  ·have hfu : fullOf K = false := by
    cases hfu : fullOf K with
    | false => rfl
    | true => exact absurd ⟨by omega, hfu⟩ hf
   subst hjz
   exact (write_behind h s F.b data hW hd hj2 hfu ht hE).mono fun e w' hp => hok e w' hp e0
  ·exact (write_over s j F.b data hW hd (by omega) hj2 ht (hE _ (below_new _ _))).mono fun e w' hp => hok e w' hp e0
theorem new_disk (w : World) (room : Int) : Calls Tryz.prog 7 #[.int .i64 room] w fun e w' => e = .returned (.pointer (some ⟨w.heap.size, 0, none⟩)) ∧ Below w.heap.size w w' ∧ w'.heap[w.heap.size]? = some (.cells #[.map none, .bool true, .int .i64 room, .int .i64 0, .bool false, .int .i64 0, .slice none 0 0] 73 (0, 0)) := by
 go_enter Tryz.func7, Tryz.ntmps7
 go_wp2
 go_ret
 exact ⟨rfl, below_new _ _, heap_alloc_new w _⟩
def Dk.new (room : Int) : Dk := ⟨none, [], true, room, 0, false, 0, .slice none 0 0, []⟩
theorem new_at_disk {w : World} {d : Nat} {room : Int} (h : w.heap[d]? = some (.cells #[.map none, .bool true, .int .i64 room, .int .i64 0, .bool false, .int .i64 0, .slice none 0 0] 73 (0, 0))) : DiskAt w d (Dk.new room) :=
 ⟨h, World.ownsRow_nil _ _ _ _, .inl ⟨rfl, rfl⟩, ⟨fun p hp => by simp [Dk.new] at hp, fun p hp => by simp [Dk.new] at hp, List.nodup_nil, List.Pairwise.nil, Nat.zero_le _, fun p hp => by simp [Dk.new] at hp, List.nodup_nil⟩, fun x hx => by simp [Dk.new, allW] at hx, fun x hx => by simp [Dk.new, allW] at hx, ⟨Nat.le_refl _, by simp [Dk.new]⟩⟩
theorem DiskAt.restore {w : World} {d : Nat} {K : Dk} (h : DiskAt w d K) : Calls Tryz.prog 29 #[.pointer (some ⟨d, 0, none⟩)] w fun e w' => e = .returned (.tuple #[]) ∧ Step w d K w' { K with on := true } := by
 have c1 := cell_at h.blk 1
 have c1 : w.cell? ⟨d, 1, none⟩ = some (.bool K.on) := c1
 have f1 := free_at h.blk 1
 have HS : Hid (Step w d K (w.setCell ⟨d, 1, none⟩ (.bool true)) { K with on := true }) := .own h ((Only.refl d w).setCell 1 _) (set_at h.blk 1 _) rfl rfl ⟨rfl, rfl⟩ (Nat.le_refl _) h.many.2
 clear h
 go_enter Tryz.func29, Tryz.ntmps29
 go_wp2
 go_end0
 exact ⟨rfl, HS.out⟩
end Go.Proofs.YtbkngnjkaledlaaGreat.P4
