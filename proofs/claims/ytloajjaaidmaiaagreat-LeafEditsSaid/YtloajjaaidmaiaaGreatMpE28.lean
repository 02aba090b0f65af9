/-
  Texts of the proof of SaidEdit9, side by side: KAItems, U12.
-/
import Derived.Test.YtloajjaaidmaiaaGreatMpE23
import Derived.Test.YtloajjaaidmaiaaGreatMpE24
import Derived.Test.YtloajjaaidmaiaaGreatMpE27
import Derived.Test.YtloajjaaidmaiaaGreatMpE21
import Derived.Test.YtloajjaaidmaiaaGreatMpE22
/-
  The book: Apart of a book that keeps Items alone. (Written by gen_kapart.py.)
-/
namespace Go.Proofs.YtloajjaaidmaiaaGreat.PK
open Go Go.RowKit Go.Lib

theorem Rws.own9 {w0 w : World} {rs Y : List Row} (h : Rws w0 (rs ++ Y) w) : ∀ x ∈ rs, x.At w w0.heap.size := fun x hx => h.own x (List.mem_append_left _ hx)
/-- nothing is kept of other kinds -/
def NilItems (bs : List Value) : Prop := ∀ j : Nat, j < 18 → j ≠ 4 → j ≠ 5 → bs[j]? = some (.slice none 0 0)
theorem NilItems.set {bs : List Value} (h : NilItems bs) (u v : Value) : NilItems ((bs.set 4 u).set 5 v) := fun j h1 h2 h3 => by
  rw [List.getElem?_set_ne (fun e => h3 e.symm), List.getElem?_set_ne (fun e => h2 e.symm)]
  exact h j h1 h2 h3
section
variable {w0 w : World} {R : List Row} {b : Nat} {bs : List Value} {tv cv : Value} {us cs : List Value} {ls ms : List (List (List Value))}
theorem cellsInItems {l : List Row} (hm : bl b bs 36 ∈ l) (h : Rws w0 l w) (hs : bs[4]? = some tv) (hn : NilItems bs) : w.cell? ⟨b, 4, none⟩ = some tv ∧ ∀ j : Nat, j < 18 → j ≠ 4 → j ≠ 5 → w.cell? ⟨b, j, none⟩ = some (.slice none 0 0) := by
  have hb := h.block hm
  exact ⟨by rw [cell_at hb]; simpa using hs, fun j h1 h2 h3 => by rw [cell_at hb]; simpa using hn j h1 h2 h3⟩
theorem cellsOfItems (h : Bk kItems w0 R b bs tv cv us cs ls ms w) (hn : NilItems bs) : w.cell? ⟨b, 4, none⟩ = some tv ∧ ∀ j : Nat, j < 18 → j ≠ 4 → j ≠ 5 → w.cell? ⟨b, j, none⟩ = some (.slice none 0 0) :=
  cellsInItems (by simp) h.rows h.c0 hn
end
set_option maxRecDepth 100000 in
set_option maxHeartbeats 4000000 in
theorem apartItems_any (w0 w : World) (b : Nat) (bs : List Value) (tv cv : Value) (us cs : List Value) (ls : List (List (List Value))) (h : Bk kItems w0 [] b bs tv cv us cs ls ls w) (hn : NilItems bs) :
    Calls Tryz.prog 20 #[.pointer (some ⟨b, 0, none⟩)] w fun r w' => r = .returned (.bool true) ∧ Below w0.heap.size w0 w' := by
  have HSH := Lib.hid (fun l hl => (h.short l hl).1)
  have HS := Lib.hid (show bs[4]? = some tv from h.c0)
  have HN := Lib.hid hn
  have HC := Lib.hid (cellsOfItems h hn)
  have HB := Lib.hid h
  obtain ⟨⟨ta, tc, rfl⟩, _⟩ := h.shapes
  clear h hn
  go_enter Tryz.func20, Tryz.ntmps20
  go_wp2_with (first
    | (go_at_call 44; (with_reducible refine (stillTexts_none _ b (HC.out.2 0 (by decide) (by decide) (by decide))).mono ?_); rintro e w' ⟨rfl, rfl⟩)
    | (go_at_call 45; (with_reducible refine (stillInts_none _ b (HC.out.2 2 (by decide) (by decide) (by decide))).mono ?_); rintro e w' ⟨rfl, rfl⟩)
    | (go_at_call 47; (with_reducible refine (stillKids_none _ b (HC.out.2 6 (by decide) (by decide) (by decide))).mono ?_); rintro e w' ⟨rfl, rfl⟩)
    | (go_at_call 48; (with_reducible refine (stillPairs_none _ b (HC.out.2 8 (by decide) (by decide) (by decide))).mono ?_); rintro e w' ⟨rfl, rfl⟩)
    | (go_at_call 49; (with_reducible refine (stillReplies_none _ b (HC.out.2 10 (by decide) (by decide) (by decide))).mono ?_); rintro e w' ⟨rfl, rfl⟩)
    | (go_at_call 50; (with_reducible refine (stillCmds_none _ b (HC.out.2 12 (by decide) (by decide) (by decide))).mono ?_); rintro e w' ⟨rfl, rfl⟩)
    | (go_at_call 51; (with_reducible refine (stillSteps_none _ b (HC.out.2 14 (by decide) (by decide) (by decide))).mono ?_); rintro e w' ⟨rfl, rfl⟩)
    | (go_at_call 52; (with_reducible refine (stillEntries_none _ b (HC.out.2 16 (by decide) (by decide) (by decide))).mono ?_); rintro e w' ⟨rfl, rfl⟩)
    | (go_at_call 46; (with_reducible refine (kItems_still HB.out).mono ?_); rintro e w' ⟨rfl, hB1⟩; replace HB := Lib.hid hB1; replace HC := Lib.hid (cellsOfItems hB1 HN.out); clear hB1)
    | (go_at_call 55; (with_reducible refine (putTexts_none _ b (HC.out.2 0 (by decide) (by decide) (by decide))).mono ?_); rintro e w' ⟨rfl, rfl⟩)
    | (go_at_call 56; (with_reducible refine (putInts_none _ b (HC.out.2 2 (by decide) (by decide) (by decide))).mono ?_); rintro e w' ⟨rfl, rfl⟩)
    | (go_at_call 58; (with_reducible refine (putKids_none _ b (HC.out.2 6 (by decide) (by decide) (by decide))).mono ?_); rintro e w' ⟨rfl, rfl⟩)
    | (go_at_call 59; (with_reducible refine (putPairs_none _ b (HC.out.2 8 (by decide) (by decide) (by decide))).mono ?_); rintro e w' ⟨rfl, rfl⟩)
    | (go_at_call 60; (with_reducible refine (putReplies_none _ b (HC.out.2 10 (by decide) (by decide) (by decide))).mono ?_); rintro e w' ⟨rfl, rfl⟩)
    | (go_at_call 61; (with_reducible refine (putCmds_none _ b (HC.out.2 12 (by decide) (by decide) (by decide))).mono ?_); rintro e w' ⟨rfl, rfl⟩)
    | (go_at_call 53; (with_reducible refine (putSteps_none _ b (HC.out.2 14 (by decide) (by decide) (by decide))).mono ?_); rintro e w' ⟨rfl, rfl⟩)
    | (go_at_call 54; (with_reducible refine (putEntries_none _ b (HC.out.2 16 (by decide) (by decide) (by decide))).mono ?_); rintro e w' ⟨rfl, rfl⟩)
    | (go_at_call 57; (with_reducible refine (kItems_put HB.out).mono ?_); rintro e w' ⟨rfl, hB1⟩; replace HB := Lib.hid hB1; replace HC := Lib.hid (cellsOfItems hB1 HN.out); clear hB1)
    | (go_at_call 64; (with_reducible refine (kItems_grow HB.out HSH.out).mono ?_); rintro e w' ⟨ov, rs, rfl, ⟨oa, on, oc, rfl⟩, hR, hM⟩; have HR := Lib.hid hR; have HM := Lib.hid hM; replace HC := Lib.hid (cellsInItems (b := b) (by simp) hR HS.out HN.out); clear hR hM)
    | (go_at_call 62; (with_reducible refine (growTexts_none _ b (HC.out.2 0 (by decide) (by decide) (by decide))).mono ?_); rintro e w' ⟨rfl, rfl⟩)
    | (go_at_call 63; (with_reducible refine (growInts_none _ b (HC.out.2 2 (by decide) (by decide) (by decide))).mono ?_); rintro e w' ⟨rfl, rfl⟩)
    | (go_at_call 65; (with_reducible refine (growKids_none _ b (HC.out.2 6 (by decide) (by decide) (by decide))).mono ?_); rintro e w' ⟨rfl, rfl⟩)
    | (go_at_call 66; (with_reducible refine (growPairs_none _ b (HC.out.2 8 (by decide) (by decide) (by decide))).mono ?_); rintro e w' ⟨rfl, rfl⟩)
    | (go_at_call 67; (with_reducible refine (growReplies_none _ b (HC.out.2 10 (by decide) (by decide) (by decide))).mono ?_); rintro e w' ⟨rfl, rfl⟩)
    | (go_at_call 68; (with_reducible refine (growCmds_none _ b (HC.out.2 12 (by decide) (by decide) (by decide))).mono ?_); rintro e w' ⟨rfl, rfl⟩)
    | (go_at_call 69; (with_reducible refine (growSteps_none _ b (HC.out.2 14 (by decide) (by decide) (by decide))).mono ?_); rintro e w' ⟨rfl, rfl⟩)
    | (go_at_call 70; (with_reducible refine (growEntries_none _ b (HC.out.2 16 (by decide) (by decide) (by decide))).mono ?_); rintro e w' ⟨rfl, rfl⟩; have hc9 := HC.out; have d4 := hc9.1; have d0 := hc9.2 0 (by decide) (by decide) (by decide); have d2 := hc9.2 2 (by decide) (by decide) (by decide); have d6 := hc9.2 6 (by decide) (by decide) (by decide); have d8 := hc9.2 8 (by decide) (by decide) (by decide); have d10 := hc9.2 10 (by decide) (by decide) (by decide); have d12 := hc9.2 12 (by decide) (by decide) (by decide); have d14 := hc9.2 14 (by decide) (by decide) (by decide); have d16 := hc9.2 16 (by decide) (by decide) (by decide); clear hc9)
    | (go_at_call 73; (with_reducible refine (HM.out _ HR.out.own9).1.mono ?_); rintro e w' ⟨rfl, hb9⟩; have hR9 := HR.out.over hb9; have HR2 := Lib.hid hR9; have hc9 := cellsInItems (b := b) (by simp) hR9 HS.out HN.out; have d4 := hc9.1; have d0 := hc9.2 0 (by decide) (by decide) (by decide); have d2 := hc9.2 2 (by decide) (by decide) (by decide); have d6 := hc9.2 6 (by decide) (by decide) (by decide); have d8 := hc9.2 8 (by decide) (by decide) (by decide); have d10 := hc9.2 10 (by decide) (by decide) (by decide); have d12 := hc9.2 12 (by decide) (by decide) (by decide); have d14 := hc9.2 14 (by decide) (by decide) (by decide); have d16 := hc9.2 16 (by decide) (by decide) (by decide); clear hc9 hR9 hb9)
    | (go_at_call 73; (with_reducible refine (HM.out _ HR2.out.own9).2.mono ?_); rintro e w' ⟨rfl, hb9⟩; have hR9 := HR2.out.over hb9; have HR3 := Lib.hid hR9; have hc9 := cellsInItems (b := b) (by simp) hR9 HS.out HN.out; have d4 := hc9.1; have d0 := hc9.2 0 (by decide) (by decide) (by decide); have d2 := hc9.2 2 (by decide) (by decide) (by decide); have d6 := hc9.2 6 (by decide) (by decide) (by decide); have d8 := hc9.2 8 (by decide) (by decide) (by decide); have d10 := hc9.2 10 (by decide) (by decide) (by decide); have d12 := hc9.2 12 (by decide) (by decide) (by decide); have d14 := hc9.2 14 (by decide) (by decide) (by decide); have d16 := hc9.2 16 (by decide) (by decide) (by decide); clear hc9 hR9 hb9)
    | (go_at_call 71; (with_reducible refine (markedTexts_none _).mono ?_); rintro e w' ⟨rfl, rfl⟩)
    | (go_at_call 72; (with_reducible refine (markedInts_none _).mono ?_); rintro e w' ⟨rfl, rfl⟩)
    | (go_at_call 74; (with_reducible refine (markedKids_none _).mono ?_); rintro e w' ⟨rfl, rfl⟩)
    | (go_at_call 75; (with_reducible refine (markedPairs_none _).mono ?_); rintro e w' ⟨rfl, rfl⟩)
    | (go_at_call 76; (with_reducible refine (markedReplies_none _).mono ?_); rintro e w' ⟨rfl, rfl⟩)
    | (go_at_call 77; (with_reducible refine (markedCmds_none _).mono ?_); rintro e w' ⟨rfl, rfl⟩)
    | (go_at_call 78; (with_reducible refine (markedSteps_none _).mono ?_); rintro e w' ⟨rfl, rfl⟩)
    | (go_at_call 79; (with_reducible refine (markedEntries_none _).mono ?_); rintro e w' ⟨rfl, rfl⟩))
  go_ret
  exact ⟨rfl, HR3.out.below⟩

end Go.Proofs.YtloajjaaidmaiaaGreat.PK

/-
  The book (items) beside other rows.
-/
namespace Go.Proofs.YtloajjaaidmaiaaGreat.P9
open Go Go.RowKit Go.Lib Go.Proofs.YtloajjaaidmaiaaGreat.PK

/-- the book at block b keeps n lists, among them T; other rows R beside it; nothing that was there in a has changed -/
def BS (a : World) (b n : Nat) (T R : List Row) (W : World) : Prop :=
  ∃ bs tv cv us cs ls, Bk kItems a R b bs tv cv us cs ls ls W ∧ NilItems bs ∧ ls.length = n ∧ ∀ x ∈ T, x ∈ rowsOf kItems us ls
section
variable {a w w' : World} {b n : Nat} {T R : List Row}
theorem BS.below (h : BS a b n T R w) : Below a.heap.size a w := by
  obtain ⟨bs, tv, cv, us, cs, ls, h, _⟩ := h
  exact h.below
theorem BS.over (h : BS a b n T R w) (k : Below w.heap.size w w') : BS a b n T R w' := by
  obtain ⟨bs, tv, cv, us, cs, ls, h, hn⟩ := h
  exact ⟨bs, tv, cv, us, cs, ls, h.over k, hn⟩
theorem BS.with_ (h : BS a b n T R w) (k : Below w.heap.size w w') {x : Row} (hx : x.At w' w.heap.size) : BS a b n T (x :: R) w' := by
  obtain ⟨bs, tv, cv, us, cs, ls, h, hn⟩ := h
  exact ⟨bs, tv, cv, us, cs, ls, h.with_ k hx, hn⟩
theorem BS.perm (h : BS a b n T R w) {R' : List Row} (p : R.Perm R') : BS a b n T R' w := by
  obtain ⟨bs, tv, cv, us, cs, ls, h, hn⟩ := h
  exact ⟨bs, tv, cv, us, cs, ls, ⟨h.rows.perm (p.append_right _), h.c0, h.c1, h.ul, h.cl, h.lm, h.few, h.short, h.shortm⟩, hn⟩
theorem BS.sub (h : BS a b n T R w) {R' : List Row} (p : R'.Sublist R) : BS a b n T R' w := by
  obtain ⟨bs, tv, cv, us, cs, ls, h, hn⟩ := h
  exact ⟨bs, tv, cv, us, cs, ls, ⟨h.rows.sub (p.append (List.Sublist.refl _)), h.c0, h.c1, h.ul, h.cl, h.lm, h.few, h.short, h.shortm⟩, hn⟩
theorem BS.row (h : BS a b n T R w) {x : Row} (hx : x ∈ R) : x.At w a.heap.size := by
  obtain ⟨bs, tv, cv, us, cs, ls, h, hn⟩ := h
  exact h.rows.own x (List.mem_append_left _ hx)
/-- a list that was kept -/
theorem BS.kept (h : BS a b n T R w) {x : Row} (hx : x ∈ T) : x.At w a.heap.size := by
  obtain ⟨bs, tv, cv, us, cs, ls, h, _, _, ht⟩ := h
  exact h.rows.own x (by simp [kRows, ht x hx])
theorem row_own {lo : Nat} {W : World} {v : Value} {l : List It} (h : (tRow kItems v (cellsI l)).At W lo) (hl : l.length ≤ 1000000) : OwnI lo W v l := by
  have h' : W.ownsRow lo 50 3 v (cellsI l).length (cellsI l).flatten := h
  rw [cellsI_length] at h'
  exact ⟨h', hl⟩
theorem cellsI_elem {l : List It} {y : List Value} (h : y ∈ cellsI l) : kItems.ok y := cellsI_ok l y h
theorem BS.keep {u : Value} {l : List It} (h : BS a b n T (tRow kItems u (cellsI l) :: R) w) (hn : n < 240) (hl : l.length ≤ 4000) (hu : ∃ (q : Option Addr) (m c : Nat), u = .slice q m c) :
    Calls Tryz.prog 13 #[.pointer (some ⟨b, 0, none⟩), u] w fun e w' => e = .returned (.tuple #[]) ∧ BS a b (n + 1) (tRow kItems u (cellsI l) :: T) R w' := by
  obtain ⟨bs, tv, cv, us, cs, ls, h, hnil, rfl, ht⟩ := h
  have hul := h.ul
  refine (bookItems_any a w R b bs tv cv u us cs ls (cellsI l) h hn (by rw [cellsI_length]; exact hl) (cellsI_ok l) hu).mono ?_
  rintro e w' ⟨rfl, _, tv', cv', c, hk⟩
  refine ⟨rfl, _, tv', cv', us ++ [u], cs ++ [c], _, hk, hnil.set tv' cv', by simp, fun x hx => ?_⟩
  rw [rowsOf_snoc hul]
  rcases List.mem_cons.1 hx with rfl | q
  · exact List.mem_append_right _ (List.mem_singleton.2 rfl)
  · exact List.mem_append_left _ (ht x q)
theorem BS.apart (h : BS a b n T R w) : Calls Tryz.prog 20 #[.pointer (some ⟨b, 0, none⟩)] w fun e w' => e = .returned (.bool true) ∧ Below a.heap.size a w' := by
  have h0 : BS a b n T [] w := h.sub (List.nil_sublist _)
  obtain ⟨bs, tv, cv, us, cs, ls, h1, hn, _⟩ := h0
  exact apartItems_any a w b bs tv cv us cs ls h1 hn
/-- a new book -/
def book0 : List Value := List.replicate 18 (.slice none 0 0)
theorem BS.start (h : Rws a R w) : BS a w.heap.size 0 [] R (w.alloc (.cells book0.toArray 36)) := by
  have h1 := h.add (Below.refl _ _) (x := vRow kItems (.slice none 0 0) []) (World.ownsRow_nil _ _ _ _)
  have h2 := h1.add (Below.refl _ _) (x := vRow kItems (.slice none 0 0) []) (World.ownsRow_nil _ _ _ _)
  have h3 := h2.new book0 36 (by decide)
  refine ⟨book0, .slice none 0 0, .slice none 0 0, [], [], [], ⟨h3.perm ?_, rfl, rfl, rfl, rfl, rfl, Nat.zero_le _, fun _ q => (by cases q), fun _ q => (by cases q)⟩, fun j h1 _ _ => ?_, rfl, fun _ q => (by cases q)⟩
  · simp only [kRows, rowsOf, List.zipWith_nil_left, List.append_nil]
    exact (List.perm_append_comm (l₁ := [bl w.heap.size book0 36, vRow kItems (.slice none 0 0) [], vRow kItems (.slice none 0 0) []]) (l₂ := R))
  · unfold book0
    rw [List.getElem?_replicate, if_pos h1]
end

end Go.Proofs.YtloajjaaidmaiaaGreat.P9
