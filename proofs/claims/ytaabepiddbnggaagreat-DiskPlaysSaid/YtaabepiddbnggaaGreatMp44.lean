/-
  Texts of the proof of SaidPlays, side by side: BbY.
-/
import Derived.Test.YtaabepiddbnggaaGreatMp43
/-
  The book, part 14: Apart. (Written by gen_book_apart.py.)
-/
namespace Go.Proofs.YtaabepiddbnggaaGreat.PB
open Go Go.RowKit Go.Lib

section
variable {w : World} {b : Nat} {tv cv : Value}
def BkC (w : World) (b : Nat) (tv cv : Value) : Prop := w.heap[b]? = some (.cells (bookCells tv cv).toArray 44 (0, 0))

theorem nil2 (h : BkC w b tv cv) : w.cell? ⟨b, 2, none⟩ = some (.slice none 0 0) := by rw [cell_at h]; rfl
theorem nil4 (h : BkC w b tv cv) : w.cell? ⟨b, 4, none⟩ = some (.slice none 0 0) := by rw [cell_at h]; rfl
theorem nil6 (h : BkC w b tv cv) : w.cell? ⟨b, 6, none⟩ = some (.slice none 0 0) := by rw [cell_at h]; rfl
theorem nil8 (h : BkC w b tv cv) : w.cell? ⟨b, 8, none⟩ = some (.slice none 0 0) := by rw [cell_at h]; rfl
theorem nil10 (h : BkC w b tv cv) : w.cell? ⟨b, 10, none⟩ = some (.slice none 0 0) := by rw [cell_at h]; rfl
theorem nil12 (h : BkC w b tv cv) : w.cell? ⟨b, 12, none⟩ = some (.slice none 0 0) := by rw [cell_at h]; rfl
theorem nil14 (h : BkC w b tv cv) : w.cell? ⟨b, 14, none⟩ = some (.slice none 0 0) := by rw [cell_at h]; rfl
theorem nil16 (h : BkC w b tv cv) : w.cell? ⟨b, 16, none⟩ = some (.slice none 0 0) := by rw [cell_at h]; rfl
theorem at0 (h : BkC w b tv cv) : w.cell? ⟨b, 0, none⟩ = some tv := by rw [cell_at h]; rfl
end

set_option maxRecDepth 100000 in
set_option maxHeartbeats 4000000 in
theorem apart_any (w0 w : World) (b : Nat) (tv cv : Value) (us cs : List Value) (ls : List (List ByteArray)) (h : Bk w0 [] b tv cv us cs ls ls w) :
    Calls Tryz.prog 15 #[.pointer (some ⟨b, 0, none⟩)] w fun r w' => r = .returned (.bool true) ∧ Below w0.heap.size w0 w' := by
  have HSH := Lib.hid (fun l hl => (h.short l hl).1)
  have HB := Lib.hid h
  clear h
  go_enter Tryz.func15, Tryz.ntmps15
  go_wp2_with (first
    | (go_at_call 50; (with_reducible refine (text_still HB.out).mono ?_); rintro e w' ⟨rfl, hB1⟩; replace HB := Lib.hid hB1; have HC := Lib.hid (show BkC _ b tv cv from hB1.cells); clear hB1)
    | (go_at_call 51; (with_reducible refine (stillInts_none _ b (nil2 HC.out)).mono ?_); rintro e w' ⟨rfl, rfl⟩)
    | (go_at_call 52; (with_reducible refine (stillItems_none _ b (nil4 HC.out)).mono ?_); rintro e w' ⟨rfl, rfl⟩)
    | (go_at_call 53; (with_reducible refine (stillKids_none _ b (nil6 HC.out)).mono ?_); rintro e w' ⟨rfl, rfl⟩)
    | (go_at_call 54; (with_reducible refine (stillPairs_none _ b (nil8 HC.out)).mono ?_); rintro e w' ⟨rfl, rfl⟩)
    | (go_at_call 55; (with_reducible refine (stillReplies_none _ b (nil10 HC.out)).mono ?_); rintro e w' ⟨rfl, rfl⟩)
    | (go_at_call 56; (with_reducible refine (stillCmds_none _ b (nil12 HC.out)).mono ?_); rintro e w' ⟨rfl, rfl⟩)
    | (go_at_call 57; (with_reducible refine (stillSteps_none _ b (nil14 HC.out)).mono ?_); rintro e w' ⟨rfl, rfl⟩)
    | (go_at_call 58; (with_reducible refine (stillEntries_none _ b (nil16 HC.out)).mono ?_); rintro e w' ⟨rfl, rfl⟩)
    | (go_at_call 62; (with_reducible refine (putInts_none _ b (nil2 HC.out)).mono ?_); rintro e w' ⟨rfl, rfl⟩)
    | (go_at_call 63; (with_reducible refine (putItems_none _ b (nil4 HC.out)).mono ?_); rintro e w' ⟨rfl, rfl⟩)
    | (go_at_call 64; (with_reducible refine (putKids_none _ b (nil6 HC.out)).mono ?_); rintro e w' ⟨rfl, rfl⟩)
    | (go_at_call 65; (with_reducible refine (putPairs_none _ b (nil8 HC.out)).mono ?_); rintro e w' ⟨rfl, rfl⟩)
    | (go_at_call 66; (with_reducible refine (putReplies_none _ b (nil10 HC.out)).mono ?_); rintro e w' ⟨rfl, rfl⟩)
    | (go_at_call 67; (with_reducible refine (putCmds_none _ b (nil12 HC.out)).mono ?_); rintro e w' ⟨rfl, rfl⟩)
    | (go_at_call 59; (with_reducible refine (putSteps_none _ b (nil14 HC.out)).mono ?_); rintro e w' ⟨rfl, rfl⟩)
    | (go_at_call 60; (with_reducible refine (putEntries_none _ b (nil16 HC.out)).mono ?_); rintro e w' ⟨rfl, rfl⟩)
    | (go_at_call 61; (with_reducible refine (text_put HB.out).mono ?_); rintro e w' ⟨rfl, hB1⟩; replace HB := Lib.hid hB1; replace HC := Lib.hid (show BkC _ b tv cv from hB1.cells); clear hB1)
    | (go_at_call 68; (with_reducible refine (text_grow HB.out HSH.out).mono ?_); rintro e w' ⟨ov, rfl, ⟨oa, on, oc, rfl⟩, hF⟩; have HF := Lib.hid hF; replace HC := Lib.hid (show BkC _ b tv cv from hF.cells); clear hF)
    | (go_at_call 69; (with_reducible refine (growInts_none _ b (nil2 HC.out)).mono ?_); rintro e w' ⟨rfl, rfl⟩)
    | (go_at_call 70; (with_reducible refine (growItems_none _ b (nil4 HC.out)).mono ?_); rintro e w' ⟨rfl, rfl⟩)
    | (go_at_call 71; (with_reducible refine (growKids_none _ b (nil6 HC.out)).mono ?_); rintro e w' ⟨rfl, rfl⟩)
    | (go_at_call 72; (with_reducible refine (growPairs_none _ b (nil8 HC.out)).mono ?_); rintro e w' ⟨rfl, rfl⟩)
    | (go_at_call 73; (with_reducible refine (growReplies_none _ b (nil10 HC.out)).mono ?_); rintro e w' ⟨rfl, rfl⟩)
    | (go_at_call 74; (with_reducible refine (growCmds_none _ b (nil12 HC.out)).mono ?_); rintro e w' ⟨rfl, rfl⟩)
    | (go_at_call 75; (with_reducible refine (growSteps_none _ b (nil14 HC.out)).mono ?_); rintro e w' ⟨rfl, rfl⟩)
    | (go_at_call 76; (with_reducible refine (growEntries_none _ b (nil16 HC.out)).mono ?_); rintro e w' ⟨rfl, rfl⟩)
    | (go_at_call 77; (with_reducible refine (HF.out.m1 _ (Below.refl _ _)).mono ?_); rintro e w' ⟨rfl, hb9⟩; have hF9 := HF.out.over hb9; have HG := Lib.hid hF9; clear HF; have hc9 : BkC _ b tv cv := hF9.cells; have d0 := at0 hc9; have d2 := nil2 hc9; have d4 := nil4 hc9; have d6 := nil6 hc9; have d8 := nil8 hc9; have d10 := nil10 hc9; have d12 := nil12 hc9; have d14 := nil14 hc9; have d16 := nil16 hc9; clear hc9 hF9)
    | (go_at_call 77; (with_reducible refine (HG.out.m2 _ (Below.refl _ _)).mono ?_); rintro e w' ⟨rfl, hb9⟩; have hF9 := HG.out.over hb9; have HH := Lib.hid hF9; clear HG; have hc9 : BkC _ b tv cv := hF9.cells; have d0 := at0 hc9; have d2 := nil2 hc9; have d4 := nil4 hc9; have d6 := nil6 hc9; have d8 := nil8 hc9; have d10 := nil10 hc9; have d12 := nil12 hc9; have d14 := nil14 hc9; have d16 := nil16 hc9; clear hc9 hF9)
    | (go_at_call 78; (with_reducible refine (markedInts_none _).mono ?_); rintro e w' ⟨rfl, rfl⟩)
    | (go_at_call 79; (with_reducible refine (markedItems_none _).mono ?_); rintro e w' ⟨rfl, rfl⟩)
    | (go_at_call 80; (with_reducible refine (markedKids_none _).mono ?_); rintro e w' ⟨rfl, rfl⟩)
    | (go_at_call 81; (with_reducible refine (markedPairs_none _).mono ?_); rintro e w' ⟨rfl, rfl⟩)
    | (go_at_call 82; (with_reducible refine (markedReplies_none _).mono ?_); rintro e w' ⟨rfl, rfl⟩)
    | (go_at_call 83; (with_reducible refine (markedCmds_none _).mono ?_); rintro e w' ⟨rfl, rfl⟩)
    | (go_at_call 84; (with_reducible refine (markedSteps_none _).mono ?_); rintro e w' ⟨rfl, rfl⟩)
    | (go_at_call 85; (with_reducible refine (markedEntries_none _).mono ?_); rintro e w' ⟨rfl, rfl⟩))
  go_ret
  exact ⟨rfl, HH.out.below⟩

end Go.Proofs.YtaabepiddbnggaaGreat.PB
