/-
  The program's list of free ids, said by what the document's has: each call. (For any seat that has free.List.)
-/
import Derived.Test.YtoiaamijjcjjiaaG11
namespace Go.Proofs.Ytoiaamijjcjjiaa.P7
open Go Go.RowKit Go.Lib Go.Proofs.Ytoiaamijjcjjiaa.PK

theorem fine_len {F : FM} (h : Fine F) : F.L.length + F.W.length ≤ 4000 := by
  have h1 := rise_bound (b := F.pages) (a := 2) h.two h.all_rising (fun x hx => by
    rcases all_mem.1 hx with q | ⟨p, hp, rfl⟩
    · exact h.low x q
    · exact h.lowW p hp)
  have h2 := h.all_len
  have h3 := h.most
  omega
/-- the program's list means F -/
structure Good (P : PM) (F : FM) : Prop where
  tie : Tie P.S F
  pages : P.pages = F.pages
  fine : Fine F
theorem Good.len {P : PM} {F : FM} (h : Good P F) : P.S.length ≤ 4000 := by
  have h1 := h.tie.len h.fine
  have h2 := fine_len h.fine
  omega
/-- it lies in block r; other rows R stand beside it -/
def QF (w0 : World) (R : List Row) (r : Nat) (F : FM) (w : World) : Prop := ∃ P, PAt w0 R r P w ∧ Good P F
section
variable {w0 w w1 w2 w' : World} {R : List Row} {r r2 : Nat} {F F2 : FM}
theorem QF.over (h : QF w0 R r F w) (hb : Below w.heap.size w w') : QF w0 R r F w' := by
  obtain ⟨P, h1, h2⟩ := h
  exact ⟨P, h1.over hb, h2⟩
theorem QF.below (h : QF w0 R r F w) : Below w0.heap.size w0 w := by
  obtain ⟨P, h1, _⟩ := h
  exact h1.rows.below
theorem QF.fine (h : QF w0 R r F w) : Fine F := by
  obtain ⟨P, _, h2⟩ := h
  exact h2.fine
/-- the rows beside it -/
theorem QF.row (h : QF w0 R r F w) {x : Row} (hx : x ∈ R) : x.At w w0.heap.size := by
  obtain ⟨P, h1, _⟩ := h
  exact h1.rows.own x (List.mem_append_right _ hx)
/-- one more row beside it -/
theorem QF.with_ (h : QF w0 R r F w) (hb : Below w.heap.size w w') {x : Row} (hx : x.At w' w.heap.size) : QF w0 (x :: R) r F w' := by
  obtain ⟨P, h1, h2⟩ := h
  refine ⟨P, ⟨?_, h1.few, h1.two⟩, h2⟩
  have h3 := h1.rows.add hb hx
  exact h3.perm (List.perm_middle (l₁ := P.rows r)).symm
theorem QF.join (h : Rws w0 R w) (k : QF w [] r F w') : QF w0 R r F w' := by
  obtain ⟨P, h1, h2⟩ := k
  refine ⟨P, ⟨?_, h1.few, h1.two⟩, h2⟩
  have h3 := rws_join h h1.rows
  rw [List.append_nil] at h3
  exact h3
theorem QF.take (h : QF w0 R r F w) (n : Int) : Calls Try.prog 13 #[.pointer (some ⟨r, 0, none⟩), .int .i64 n] w fun e w' => e = .returned (.tuple #[.int .i64 (F.take n).2.1, .int .i64 (F.take n).2.2]) ∧ QF w0 R r (F.take n).1 w' := by
  obtain ⟨P, h1, h2⟩ := h
  refine (h1.take_ n F h2.tie h2.fine h2.pages).mono ?_
  rintro e w' ⟨P', rfl, q1, q2, q3⟩
  exact ⟨rfl, P', q1, q2, q3, h2.fine.take n⟩
theorem QF.give (h : QF w0 R r F w) (tx : Int) (v : Value) (ids : List Int) (HI : ∀ W, (∀ x ∈ R, Row.At W w0.heap.size x) → Below w0.heap.size w0 W → IL W v ids) (hl : ids.length ≤ 5000) :
    Calls Try.prog 15 #[.pointer (some ⟨r, 0, none⟩), .int .i64 tx, v] w fun e w' => e = .returned (.int .i64 ((F.give tx ids).length - F.W.length : Int)) ∧ QF w0 R r { F with W := F.give tx ids } w' := by
  obtain ⟨P, h1, h2⟩ := h
  have hlen := h2.len
  refine (h1.give_ tx v ids (fun P' W hW => HI W (fun x hx => hW.rows.own x (List.mem_append_right _ hx)) hW.rows.below) h2.tie.rise (by omega)).mono ?_
  rintro e w' ⟨sv', rfl, q⟩
  have ht : Tie (gives P.pages tx P.S ids) { F with W := F.give tx ids } := by
    rw [h2.pages]
    exact Tie.gives tx ids P.S F.W h2.tie
  have hf : Fine { F with W := F.give tx ids } := Fine.give tx ids F.W h2.fine
  have e1 := ht.len hf
  have e2 := h2.tie.len h2.fine
  refine ⟨?_, _, q, ht, h2.pages, hf⟩
  congr 2
  simp only at e1
  omega
theorem QF.rel (h : QF w0 R r F w) (t : Int) : Calls Try.prog 17 #[.pointer (some ⟨r, 0, none⟩), .int .i64 t] w fun e w' => e = .returned (.int .i64 (relN t F.W : Nat)) ∧ QF w0 R r { F with L := F.relL t, W := relW t F.W } w' := by
  obtain ⟨P, h1, h2⟩ := h
  refine (h1.rel_ t).mono ?_
  rintro e w' ⟨rfl, q⟩
  exact ⟨by rw [h2.tie.relC h2.fine t], _, q, h2.tie.rel t, h2.pages, h2.fine.rel t⟩
theorem QF.free_ (h : QF w0 R r F w) : Calls Try.prog 20 #[.pointer (some ⟨r, 0, none⟩)] w fun e w' => ∃ u, e = .returned u ∧ (iRow u F.L).At w' w.heap.size ∧ Below w.heap.size w w' := by
  obtain ⟨P, h1, h2⟩ := h
  rw [← h2.tie.free_ h2.fine]
  exact h1.free_
theorem QF.pend_ (h : QF w0 R r F w) (tx : Int) : Calls Try.prog 21 #[.pointer (some ⟨r, 0, none⟩), .int .i64 tx] w fun e w' => ∃ u, e = .returned u ∧ (iRow u (F.pend tx)).At w' w.heap.size ∧ Below w.heap.size w w' := by
  obtain ⟨P, h1, h2⟩ := h
  rw [← h2.tie.pend_ tx]
  exact h1.pend_ tx
theorem QF.all_ (h : QF w0 R r F w) : Calls Try.prog 22 #[.pointer (some ⟨r, 0, none⟩)] w fun e w' => ∃ u, e = .returned u ∧ (iRow u F.all).At w' w.heap.size ∧ Below w.heap.size w w' := by
  obtain ⟨P, h1, h2⟩ := h
  rw [← h2.tie.ids h2.fine]
  exact h1.all_
theorem QF.pages_ (h : QF w0 R r F w) : Calls Try.prog 27 #[.pointer (some ⟨r, 0, none⟩)] w fun e w' => e = .returned (.int .i64 F.pages) ∧ w = w' := by
  obtain ⟨P, h1, h2⟩ := h
  rw [← h2.pages]
  exact h1.pages_
/-- two lists side by side -/
def Q2 (w0 : World) (R : List Row) (r : Nat) (F : FM) (r2 : Nat) (F2 : FM) (w : World) : Prop := ∃ P2 : PM, Good P2 F2 ∧ P2.S.length ≤ 10000 ∧ 2 ≤ P2.pages ∧ QF w0 (P2.rows r2 ++ R) r F w
theorem Q2.swap (h : Q2 w0 R r F r2 F2 w) : Q2 w0 R r2 F2 r F w := by
  obtain ⟨P2, g2, f2, t2, P, h1, g1⟩ := h
  refine ⟨P, g1, h1.few, h1.two, P2, ⟨?_, f2, t2⟩, g2⟩
  refine h1.rows.perm ?_
  rw [← List.append_assoc, ← List.append_assoc]
  exact List.Perm.append_right _ List.perm_append_comm
theorem Q2.over (h : Q2 w0 R r F r2 F2 w) (hb : Below w.heap.size w w') : Q2 w0 R r F r2 F2 w' := by
  obtain ⟨P2, g2, f2, t2, h1⟩ := h
  exact ⟨P2, g2, f2, t2, h1.over hb⟩
/-- the first alone -/
theorem Q2.one (h : Q2 w0 R r F r2 F2 w) : QF w0 R r F w := by
  obtain ⟨P2, g2, f2, t2, P, h1, g1⟩ := h
  refine ⟨P, ⟨h1.rows.sub ?_, h1.few, h1.two⟩, g1⟩
  exact List.Sublist.append_left (List.sublist_append_right _ _) _
theorem Q2.row (h : Q2 w0 R r F r2 F2 w) {x : Row} (hx : x ∈ R) : x.At w w0.heap.size := h.one.row hx
theorem QF.copy (h : QF w0 R r F w) : Calls Try.prog 19 #[.pointer (some ⟨r, 0, none⟩)] w fun e w' => ∃ r2, e = .returned (.pointer (some ⟨r2, 0, none⟩)) ∧ Q2 w0 R r2 F r F w' := by
  obtain ⟨P, h1, h2⟩ := h
  refine (h1.copy_).mono ?_
  rintro e w' ⟨r2, v', rfl, q⟩
  refine ⟨r2, rfl, P, h2, h1.few, h1.two, { P with sv := v' }, ⟨?_, h1.few, h1.two⟩, h2.tie, h2.pages, h2.fine⟩
  exact rws_join h1.rows q
theorem Q2.take (h : Q2 w0 R r F r2 F2 w) (n : Int) : Calls Try.prog 13 #[.pointer (some ⟨r, 0, none⟩), .int .i64 n] w fun e w' => e = .returned (.tuple #[.int .i64 (F.take n).2.1, .int .i64 (F.take n).2.2]) ∧ Q2 w0 R r (F.take n).1 r2 F2 w' := by
  obtain ⟨P2, g2, f2, t2, h1⟩ := h
  refine (h1.take n).mono ?_
  rintro e w' ⟨rfl, q⟩
  exact ⟨rfl, P2, g2, f2, t2, q⟩
theorem Q2.give (h : Q2 w0 R r F r2 F2 w) (tx : Int) (v : Value) (ids : List Int) (HI : ∀ W, (∀ x ∈ R, Row.At W w0.heap.size x) → Below w0.heap.size w0 W → IL W v ids) (hl : ids.length ≤ 5000) :
    Calls Try.prog 15 #[.pointer (some ⟨r, 0, none⟩), .int .i64 tx, v] w fun e w' => e = .returned (.int .i64 ((F.give tx ids).length - F.W.length : Int)) ∧ Q2 w0 R r { F with W := F.give tx ids } r2 F2 w' := by
  obtain ⟨P2, g2, f2, t2, h1⟩ := h
  refine (h1.give tx v ids (fun W hW hb => HI W (fun x hx => hW x (List.mem_append_right _ hx)) hb) hl).mono ?_
  rintro e w' ⟨rfl, q⟩
  exact ⟨rfl, P2, g2, f2, t2, q⟩
theorem Q2.rel (h : Q2 w0 R r F r2 F2 w) (t : Int) : Calls Try.prog 17 #[.pointer (some ⟨r, 0, none⟩), .int .i64 t] w fun e w' => e = .returned (.int .i64 (relN t F.W : Nat)) ∧ Q2 w0 R r { F with L := F.relL t, W := relW t F.W } r2 F2 w' := by
  obtain ⟨P2, g2, f2, t2, h1⟩ := h
  refine (h1.rel t).mono ?_
  rintro e w' ⟨rfl, q⟩
  exact ⟨rfl, P2, g2, f2, t2, q⟩
/-- New, Load -/
theorem new_q (w : World) (p : Int) : Calls Try.prog 12 #[.int .i64 p] w fun e w' => ∃ r, e = .returned (.pointer (some ⟨r, 0, none⟩)) ∧ QF w [] r ⟨.slice none 0 0, .slice none 0 0, min (max p 2) 4000, [], []⟩ w' := by
  refine (new_ w p).mono ?_
  rintro e w' ⟨rfl, h⟩
  have hp : 2 ≤ min (max p 2) 4000 := by omega
  refine ⟨_, rfl, _, ⟨by rw [List.append_nil]; exact h, Nat.zero_le _, hp⟩, new_tie _, rfl, ?_⟩
  exact ⟨List.Pairwise.nil, fun _ q => (by cases q), fun _ q => (by cases q), List.nodup_nil, fun _ q => (by cases q), hp, by show min (max p 2) 4000 ≤ 4000; omega⟩
theorem load_q (w : World) (p : Int) (v : Value) (ids : List Int) (hi : IL w v ids) (hr : Rises p ids) : Calls Try.prog 9 #[.int .i64 p, v] w fun e w' => ∃ r, e = .returned (.tuple #[.pointer (some ⟨r, 0, none⟩), .int .i64 0]) ∧ QF w [] r ⟨.slice none 0 0, .slice none 0 0, p, ids, []⟩ w' := by
  refine (load_ w p v ids hi).mono ?_
  rintro e w' (⟨_, r, sv, rfl, h⟩ | ⟨h, _⟩)
  · exact ⟨r, rfl, _, h, load_tie hr, rfl, load_fine hr _ _⟩
  · exact absurd hr h
theorem load_e (w : World) (p : Int) (v : Value) (ids : List Int) (hi : IL w v ids) (hr : ¬ Rises p ids) : Calls Try.prog 9 #[.int .i64 p, v] w fun e w' => e = .returned (.tuple #[.pointer none, .int .i64 1]) ∧ Below w.heap.size w w' := by
  refine (load_ w p v ids hi).mono ?_
  rintro e w' (⟨h, _⟩ | ⟨_, h⟩)
  · exact absurd h hr
  · exact h
end

end Go.Proofs.Ytoiaamijjcjjiaa.P7
