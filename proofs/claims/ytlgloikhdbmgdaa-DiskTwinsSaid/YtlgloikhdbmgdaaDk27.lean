/-
  Package disk: Write: no room; a sector written over. (Disk, part 27.)
-/
import Derived.Test.YtlgloikhdbmgdaaDk26
namespace Go.Proofs.Ytlgloikhdbmgdaa.P4
open Go Go.RowKit Go.Lib Go.Maps Go.ChangeMaps Go.MapKept Go.Proofs.Ytlgloikhdbmgdaa.P3

/-- what full tells, behind the check -/
theorem DiskAt.wfull {w : World} {d : Nat} {K : Dk} (h : DiskAt w d K) (s : ByteArray) : Calls Try.prog 33 #[.pointer (some ⟨d, 0, none⟩)] (w.alloc (.cells #[.string s] 9)) fun e w' => e = .returned (.bool (fullOf K)) ∧ Below w.heap.size w w' :=
  (h.below (below_new w _)).full.mono fun _ _ ⟨h1, h2⟩ => ⟨h1, thenBelow (below_new w _) h2⟩

set_option maxRecDepth 100000 in
set_option maxHeartbeats 2000000 in
theorem write_err4 {w : World} {d : Nat} {K : Dk} (hD : DiskAt w d K) (s : ByteArray) (data : ByteArray) {p : Option Addr} {z : Nat} (h : WFacts w d K s p z) (hd : data.size = 256) (hz : z ≤ 4000) (hf : fullOf K = true) :
    Calls Try.prog 10 #[.pointer (some ⟨d, 0, none⟩), .string s, .int .i64 z, .string data] w fun e w' => e = .returned (.int .i64 20) ∧ Below w.heap.size w w' := by
  have HC := Lib.hid h.check
  have HS := Lib.hid h.size
  have c0 := h.c0
  have hl := h.look
  have HF := hD.wfull s
  rw [hf] at HF
  have HF := Lib.hid HF
  have k1 : ((data.size : Int) != 256) = false := by simp; omega
  have b1 : (0 : Int) ≤ (z : Int) := by omega
  have b2 : (z : Int) ≤ 4000 := by omega
  clear h hd hD hf
  go_enter Try.func10, Try.ntmps10
  go_wp2_with (first
    | (go_at_call 31; (with_reducible refine HC.out.mono ?_); rintro e w' ⟨rfl, rfl⟩)
    | (go_at_call 32; (with_reducible refine HS.out.mono ?_); rintro e w' ⟨rfl, rfl⟩)
    | (go_at_call 33; (with_reducible refine HF.out.mono ?_); rintro e w' ⟨rfl, hb⟩; have HB := Lib.hid hb; clear hb))
  go_ret
  exact ⟨rfl, HB.out⟩

set_option maxRecDepth 100000 in
set_option maxHeartbeats 2000000 in
theorem write_err5 {w : World} {d : Nat} {K : Dk} (hD : DiskAt w d K) (s : ByteArray) (data : ByteArray) (h : WFacts w d K s none 0) (hd : data.size = 256) (hf : fullOf K = false) (hl60 : 60 ≤ K.files.length) :
    Calls Try.prog 10 #[.pointer (some ⟨d, 0, none⟩), .string s, .int .i64 0, .string data] w fun e w' => e = .returned (.int .i64 20) ∧ Below w.heap.size w w' := by
  have HC := Lib.hid h.check
  have HS := Lib.hid h.size
  have c0 := h.c0
  have hl := h.look
  have HF := hD.wfull s
  rw [hf] at HF
  have HF := Lib.hid HF
  have HL : Hid (∀ W, Below w.heap.size w W → W.cell? ⟨d, 0, none⟩ = some (.map K.m) ∧ ∀ ty, (Builtin.len_ #[56] ty #[.map K.m]).run Try.prog W = .ok (.int .i64 (dir K.files).length) W) := fun W hW => ⟨cell_at (hD.below hW).blk 0, fun ty => (hD.below hW).map.len ty⟩
  obtain ⟨nl, hnl⟩ : ∃ nl, nl = (dir K.files).length := ⟨_, rfl⟩
  rw [← hnl] at HL
  have b60 : (60 : Int) ≤ (nl : Int) := by rw [hnl]; simp [dir]; omega
  have k1 : ((data.size : Int) != 256) = false := by simp; omega
  clear h hd hD hf hnl hl60
  go_enter Try.func10, Try.ntmps10
  go_wp2_with (first
    | (go_at_call 31; (with_reducible refine HC.out.mono ?_); rintro e w' ⟨rfl, rfl⟩)
    | (go_at_call 32; (with_reducible refine HS.out.mono ?_); rintro e w' ⟨rfl, rfl⟩)
    | (go_at_call 33; (with_reducible refine HF.out.mono ?_); rintro e w' ⟨rfl, hb⟩; obtain ⟨q0, ql⟩ := HL.out w' hb; have HB := Lib.hid hb; clear hb))
  go_ret
  exact ⟨rfl, HB.out⟩

/-- the disk behind the turn, the write and the count -/
def OkPost (w : World) (d : Nat) (K : Dk) (n : List UInt8) (i : Nat) (data : ByteArray) (e : Ending) (w' : World) : Prop := ∃ w1 K1, Step w d K w1 K1 ∧ Written K n i data K1 ∧ CountPost w1 d K1 e w'

/-- what the end of Write needs: from a disk with that file on -/
structure WEnd (w : World) (d : Nat) (K : Dk) (n : List UInt8) (i : Nat) (data : ByteArray) (fb : Nat) (W0 : World) : Prop where
  c3 : W0.cell? ⟨d, 3, none⟩ = some (.int .i64 K.turn)
  f3 : W0.frozen? ⟨d, 3, none⟩ = false
  lt : d < W0.heap.size
  write : ∀ W, Below (W0.setCell ⟨d, 3, none⟩ (.int .i64 ((K.turn : Int) + 1))).heap.size (W0.setCell ⟨d, 3, none⟩ (.int .i64 ((K.turn : Int) + 1))) W →
    Calls Try.prog 35 #[.pointer (some ⟨fb, 0, none⟩), .int .i64 ((K.turn : Int) + 1), .int .i64 i, .string data] W fun e w' => e = .returned (.tuple #[]) ∧ w'.cell? ⟨d, 3, none⟩ = some (.int .i64 ((K.turn : Int) + 1)) ∧ Calls Try.prog 37 #[.pointer (some ⟨d, 0, none⟩)] w' (OkPost w d K n i data)
theorem DiskAt.wend {w W0 : World} {d : Nat} {K K0 : Dk} {n : List UInt8} {i : Nat} {data : ByteArray} {F : Fl} (hS : Step w d K W0 K0) (hK0 : ∃ m L, K0 = { K with m := m, files := L } ∧ restF L n = restF K.files n) (hm : (n, F) ∈ K0.files) (hF : getF K.files n = some F ∨ getF K.files n = none ∧ ∃ b0, F = Fl.fresh b0)
    (hi : i ≤ F.secs.length) (hi2 : i ≤ 4000) (hd : data.size = 256) (hon : K.on = true) (hl : K.left ≤ 9223372036854775807) (ht : K.turn < 9000) : WEnd w d K n i data F.b W0 := by
  obtain ⟨m, L, rfl, hrs⟩ := hK0
  have h0 := hS.at'
  refine ⟨cell_at h0.blk 3, free_at h0.blk 3, lt_of_block h0.blk, fun W hW => ?_⟩
  have h1 : Step W0 d { K with m := m, files := L } (W0.setCell ⟨d, 3, none⟩ (.int .i64 ((K.turn : Int) + 1))) { K with m := m, files := L, turn := K.turn + 1 } :=
    .own h0 ((Only.refl d W0).setCell 3 _) (set_at h0.blk 3 _) rfl rfl ⟨rfl, rfl⟩ (Nat.le_succ _) ht
  have h2 := h1.at'.below hW
  have hlt : ∀ x ∈ allW L, x.turn < K.turn + 1 := fun x hx => Nat.lt_succ_of_le (h0.turns x hx)
  have hcn : (allW L).length < K.turn + 1 := Nat.lt_succ_of_le h0.many.1
  have hFw : F.ws.length < 10000 := by
    have h5 : F.ws.length ≤ (allW L).length := by
      have := (allW_perm (rest_perm h0.files.names hm)).length_eq
      rw [allW_cons, List.length_append] at this
      have h6 : (allW L).length = F.ws.length + (allW (restF L n)).length := this
      omega
    omega
  refine (FileAt.write (h2.files.at' _ hm) (h2.files.ok _ hm) (K.turn + 1) i data hi hFw).mono ?_
  rintro e w' ⟨rfl, sl, b, hW2⟩
  have h3 := h2.wrote (K := { K with m := m, files := L, turn := K.turn + 1 }) hm hlt hcn hi hi2 hd hW2
  have h4 : Step w d K w' { K with m := m, turn := K.turn + 1, files := (n, F.write sl b (K.turn + 1) i data) :: restF L n } := ((hS.trans h1).trans (.below h1.at' hW)).trans h3
  refine ⟨rfl, cell_at h4.at'.blk 3, (h4.at'.count hon hl).mono fun e w' hc => ⟨_, _, h4, ⟨m, sl, b, F, hF, by rw [hrs]⟩, hc⟩⟩

end Go.Proofs.Ytlgloikhdbmgdaa.P4
