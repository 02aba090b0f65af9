/-
  The book: Apart of a book that keeps Kids alone. (Written by gen_kapart.py.)
-/
import Derived.Test.YthihjkdankbnjaaGreatKE
import Derived.Test.YthihjkdankbnjaaGreatK7Kids
import Derived.Test.YthihjkdankbnjaaGreatK8Kids
namespace Go.Proofs.YthihjkdankbnjaaGreat.PK
open Go Go.RowKit Go.Lib

theorem Rws.own9 {w0 w : World} {rs Y : List Row} (h : Rws w0 (rs ++ Y) w) : ∀ x ∈ rs, x.At w w0.heap.size := fun x hx => h.own x (List.mem_append_left _ hx)
/-- nothing is kept of other kinds -/
def NilKids (bs : List Value) : Prop := ∀ j : Nat, j < 18 → j ≠ 6 → j ≠ 7 → bs[j]? = some (.slice none 0 0)
theorem NilKids.set {bs : List Value} (h : NilKids bs) (u v : Value) : NilKids ((bs.set 6 u).set 7 v) := fun j h1 h2 h3 => by
  rw [List.getElem?_set_ne (fun e => h3 e.symm), List.getElem?_set_ne (fun e => h2 e.symm)]
  exact h j h1 h2 h3
section
variable {w0 w : World} {R : List Row} {b : Nat} {bs : List Value} {tv cv : Value} {us cs : List Value} {ls ms : List (List (List Value))}
theorem cellsInKids {l : List Row} (hm : bl b bs 36 ∈ l) (h : Rws w0 l w) (hs : bs[6]? = some tv) (hn : NilKids bs) : w.cell? ⟨b, 6, none⟩ = some tv ∧ ∀ j : Nat, j < 18 → j ≠ 6 → j ≠ 7 → w.cell? ⟨b, j, none⟩ = some (.slice none 0 0) := by
  have hb := h.block hm
  exact ⟨by rw [cell_at hb]; simpa using hs, fun j h1 h2 h3 => by rw [cell_at hb]; simpa using hn j h1 h2 h3⟩
theorem cellsOfKids (h : Bk kKids w0 R b bs tv cv us cs ls ms w) (hn : NilKids bs) : w.cell? ⟨b, 6, none⟩ = some tv ∧ ∀ j : Nat, j < 18 → j ≠ 6 → j ≠ 7 → w.cell? ⟨b, j, none⟩ = some (.slice none 0 0) :=
  cellsInKids (by simp) h.rows h.c0 hn
end
set_option maxRecDepth 100000 in
set_option maxHeartbeats 4000000 in
theorem apartKids_any (w0 w : World) (b : Nat) (bs : List Value) (tv cv : Value) (us cs : List Value) (ls : List (List (List Value))) (h : Bk kKids w0 [] b bs tv cv us cs ls ls w) (hn : NilKids bs) :
    Calls Tryz.prog 18 #[.pointer (some ⟨b, 0, none⟩)] w fun r w' => r = .returned (.bool true) ∧ Below w0.heap.size w0 w' := by
  have HSH := Lib.hid (fun l hl => (h.short l hl).1)
  have HS := Lib.hid (show bs[6]? = some tv from h.c0)
  have HN := Lib.hid hn
  have HC := Lib.hid (cellsOfKids h hn)
  have HB := Lib.hid h
  obtain ⟨⟨ta, tc, rfl⟩, _⟩ := h.shapes
  clear h hn
  go_enter Tryz.func18, Tryz.ntmps18
  go_wp2_with (first
    | (go_at_call 40; (with_reducible refine (stillTexts_none _ b (HC.out.2 0 (by decide) (by decide) (by decide))).mono ?_); rintro e w' ⟨rfl, rfl⟩)
    | (go_at_call 41; (with_reducible refine (stillInts_none _ b (HC.out.2 2 (by decide) (by decide) (by decide))).mono ?_); rintro e w' ⟨rfl, rfl⟩)
    | (go_at_call 42; (with_reducible refine (stillItems_none _ b (HC.out.2 4 (by decide) (by decide) (by decide))).mono ?_); rintro e w' ⟨rfl, rfl⟩)
    | (go_at_call 44; (with_reducible refine (stillPairs_none _ b (HC.out.2 8 (by decide) (by decide) (by decide))).mono ?_); rintro e w' ⟨rfl, rfl⟩)
    | (go_at_call 45; (with_reducible refine (stillReplies_none _ b (HC.out.2 10 (by decide) (by decide) (by decide))).mono ?_); rintro e w' ⟨rfl, rfl⟩)
    | (go_at_call 46; (with_reducible refine (stillCmds_none _ b (HC.out.2 12 (by decide) (by decide) (by decide))).mono ?_); rintro e w' ⟨rfl, rfl⟩)
    | (go_at_call 47; (with_reducible refine (stillSteps_none _ b (HC.out.2 14 (by decide) (by decide) (by decide))).mono ?_); rintro e w' ⟨rfl, rfl⟩)
    | (go_at_call 48; (with_reducible refine (stillEntries_none _ b (HC.out.2 16 (by decide) (by decide) (by decide))).mono ?_); rintro e w' ⟨rfl, rfl⟩)
    | (go_at_call 43; (with_reducible refine (kKids_still HB.out).mono ?_); rintro e w' ⟨rfl, hB1⟩; replace HB := Lib.hid hB1; replace HC := Lib.hid (cellsOfKids hB1 HN.out); clear hB1)
    | (go_at_call 51; (with_reducible refine (putTexts_none _ b (HC.out.2 0 (by decide) (by decide) (by decide))).mono ?_); rintro e w' ⟨rfl, rfl⟩)
    | (go_at_call 52; (with_reducible refine (putInts_none _ b (HC.out.2 2 (by decide) (by decide) (by decide))).mono ?_); rintro e w' ⟨rfl, rfl⟩)
    | (go_at_call 53; (with_reducible refine (putItems_none _ b (HC.out.2 4 (by decide) (by decide) (by decide))).mono ?_); rintro e w' ⟨rfl, rfl⟩)
    | (go_at_call 55; (with_reducible refine (putPairs_none _ b (HC.out.2 8 (by decide) (by decide) (by decide))).mono ?_); rintro e w' ⟨rfl, rfl⟩)
    | (go_at_call 56; (with_reducible refine (putReplies_none _ b (HC.out.2 10 (by decide) (by decide) (by decide))).mono ?_); rintro e w' ⟨rfl, rfl⟩)
    | (go_at_call 57; (with_reducible refine (putCmds_none _ b (HC.out.2 12 (by decide) (by decide) (by decide))).mono ?_); rintro e w' ⟨rfl, rfl⟩)
    | (go_at_call 49; (with_reducible refine (putSteps_none _ b (HC.out.2 14 (by decide) (by decide) (by decide))).mono ?_); rintro e w' ⟨rfl, rfl⟩)
    | (go_at_call 50; (with_reducible refine (putEntries_none _ b (HC.out.2 16 (by decide) (by decide) (by decide))).mono ?_); rintro e w' ⟨rfl, rfl⟩)
    | (go_at_call 54; (with_reducible refine (kKids_put HB.out).mono ?_); rintro e w' ⟨rfl, hB1⟩; replace HB := Lib.hid hB1; replace HC := Lib.hid (cellsOfKids hB1 HN.out); clear hB1)
    | (go_at_call 61; (with_reducible refine (kKids_grow HB.out HSH.out).mono ?_); rintro e w' ⟨ov, rs, rfl, ⟨oa, on, oc, rfl⟩, hR, hM⟩; have HR := Lib.hid hR; have HM := Lib.hid hM; replace HC := Lib.hid (cellsInKids (b := b) (by simp) hR HS.out HN.out); clear hR hM)
    | (go_at_call 58; (with_reducible refine (growTexts_none _ b (HC.out.2 0 (by decide) (by decide) (by decide))).mono ?_); rintro e w' ⟨rfl, rfl⟩)
    | (go_at_call 59; (with_reducible refine (growInts_none _ b (HC.out.2 2 (by decide) (by decide) (by decide))).mono ?_); rintro e w' ⟨rfl, rfl⟩)
    | (go_at_call 60; (with_reducible refine (growItems_none _ b (HC.out.2 4 (by decide) (by decide) (by decide))).mono ?_); rintro e w' ⟨rfl, rfl⟩)
    | (go_at_call 62; (with_reducible refine (growPairs_none _ b (HC.out.2 8 (by decide) (by decide) (by decide))).mono ?_); rintro e w' ⟨rfl, rfl⟩)
    | (go_at_call 63; (with_reducible refine (growReplies_none _ b (HC.out.2 10 (by decide) (by decide) (by decide))).mono ?_); rintro e w' ⟨rfl, rfl⟩)
    | (go_at_call 64; (with_reducible refine (growCmds_none _ b (HC.out.2 12 (by decide) (by decide) (by decide))).mono ?_); rintro e w' ⟨rfl, rfl⟩)
    | (go_at_call 65; (with_reducible refine (growSteps_none _ b (HC.out.2 14 (by decide) (by decide) (by decide))).mono ?_); rintro e w' ⟨rfl, rfl⟩)
    | (go_at_call 66; (with_reducible refine (growEntries_none _ b (HC.out.2 16 (by decide) (by decide) (by decide))).mono ?_); rintro e w' ⟨rfl, rfl⟩; have hc9 := HC.out; have d6 := hc9.1; have d0 := hc9.2 0 (by decide) (by decide) (by decide); have d2 := hc9.2 2 (by decide) (by decide) (by decide); have d4 := hc9.2 4 (by decide) (by decide) (by decide); have d8 := hc9.2 8 (by decide) (by decide) (by decide); have d10 := hc9.2 10 (by decide) (by decide) (by decide); have d12 := hc9.2 12 (by decide) (by decide) (by decide); have d14 := hc9.2 14 (by decide) (by decide) (by decide); have d16 := hc9.2 16 (by decide) (by decide) (by decide); clear hc9)
    | (go_at_call 70; (with_reducible refine (HM.out _ HR.out.own9).1.mono ?_); rintro e w' ⟨rfl, hb9⟩; have hR9 := HR.out.over hb9; have HR2 := Lib.hid hR9; have hc9 := cellsInKids (b := b) (by simp) hR9 HS.out HN.out; have d6 := hc9.1; have d0 := hc9.2 0 (by decide) (by decide) (by decide); have d2 := hc9.2 2 (by decide) (by decide) (by decide); have d4 := hc9.2 4 (by decide) (by decide) (by decide); have d8 := hc9.2 8 (by decide) (by decide) (by decide); have d10 := hc9.2 10 (by decide) (by decide) (by decide); have d12 := hc9.2 12 (by decide) (by decide) (by decide); have d14 := hc9.2 14 (by decide) (by decide) (by decide); have d16 := hc9.2 16 (by decide) (by decide) (by decide); clear hc9 hR9 hb9)
    | (go_at_call 70; (with_reducible refine (HM.out _ HR2.out.own9).2.mono ?_); rintro e w' ⟨rfl, hb9⟩; have hR9 := HR2.out.over hb9; have HR3 := Lib.hid hR9; have hc9 := cellsInKids (b := b) (by simp) hR9 HS.out HN.out; have d6 := hc9.1; have d0 := hc9.2 0 (by decide) (by decide) (by decide); have d2 := hc9.2 2 (by decide) (by decide) (by decide); have d4 := hc9.2 4 (by decide) (by decide) (by decide); have d8 := hc9.2 8 (by decide) (by decide) (by decide); have d10 := hc9.2 10 (by decide) (by decide) (by decide); have d12 := hc9.2 12 (by decide) (by decide) (by decide); have d14 := hc9.2 14 (by decide) (by decide) (by decide); have d16 := hc9.2 16 (by decide) (by decide) (by decide); clear hc9 hR9 hb9)
    | (go_at_call 67; (with_reducible refine (markedTexts_none _).mono ?_); rintro e w' ⟨rfl, rfl⟩)
    | (go_at_call 68; (with_reducible refine (markedInts_none _).mono ?_); rintro e w' ⟨rfl, rfl⟩)
    | (go_at_call 69; (with_reducible refine (markedItems_none _).mono ?_); rintro e w' ⟨rfl, rfl⟩)
    | (go_at_call 71; (with_reducible refine (markedPairs_none _).mono ?_); rintro e w' ⟨rfl, rfl⟩)
    | (go_at_call 72; (with_reducible refine (markedReplies_none _).mono ?_); rintro e w' ⟨rfl, rfl⟩)
    | (go_at_call 73; (with_reducible refine (markedCmds_none _).mono ?_); rintro e w' ⟨rfl, rfl⟩)
    | (go_at_call 74; (with_reducible refine (markedSteps_none _).mono ?_); rintro e w' ⟨rfl, rfl⟩)
    | (go_at_call 75; (with_reducible refine (markedEntries_none _).mono ?_); rintro e w' ⟨rfl, rfl⟩))
  go_ret
  exact ⟨rfl, HR3.out.below⟩

end Go.Proofs.YthihjkdankbnjaaGreat.PK
