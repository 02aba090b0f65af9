/-
  The book (items) beside other rows.
-/
import Derived.Test.YthihjkdankbnjaaGreatT6
import Derived.Test.YthihjkdankbnjaaGreatKAKids
namespace Go.Proofs.YthihjkdankbnjaaGreat.P10
open Go Go.RowKit Go.Lib Go.Proofs.YthihjkdankbnjaaGreat.PK

theorem OwnI.row {lo : Nat} {w : World} {v : Value} {l : List It} (h : OwnI lo w v l) : (tRow kKids v (cellsI l)).At w lo := by
  show w.ownsRow lo 50 2 v (cellsI l).length (cellsI l).flatten
  rw [cellsI_length]
  exact h.1
/-- the book at block b keeps n lists, among them T; other rows R beside it; nothing that was there in a has changed -/
def BS (a : World) (b n : Nat) (T R : List Row) (W : World) : Prop :=
  ∃ bs tv cv us cs ls, Bk kKids a R b bs tv cv us cs ls ls W ∧ NilKids bs ∧ ls.length = n ∧ ∀ x ∈ T, x ∈ rowsOf kKids us ls
section
variable {a w w' : World} {b n : Nat} {T R : List Row}
theorem BS.below (h : BS a b n T R w) : Below a.heap.size a w := by
  obtain ⟨bs, tv, cv, us, cs, ls, h, _⟩ := h
  exact h.below
theorem BS.over (h : BS a b n T R w) (k : Below w.heap.size w w') : BS a b n T R w' := by
  obtain ⟨bs, tv, cv, us, cs, ls, h, hn⟩ := h
  exact ⟨bs, tv, cv, us, cs, ls, h.over k, hn⟩
theorem BS.with_ (h : BS a b n T R w) (k : Below w.heap.size w w') {x : Row} (hx : x.At w' w.heap.size) : BS a b n T (x :: R) w' := by
  obtain ⟨bs, tv, cv, us, cs, ls, h, hn⟩ := h
  exact ⟨bs, tv, cv, us, cs, ls, h.with_ k hx, hn⟩
theorem BS.perm (h : BS a b n T R w) {R' : List Row} (p : R.Perm R') : BS a b n T R' w := by
  obtain ⟨bs, tv, cv, us, cs, ls, h, hn⟩ := h
  exact ⟨bs, tv, cv, us, cs, ls, ⟨h.rows.perm (p.append_right _), h.c0, h.c1, h.ul, h.cl, h.lm, h.few, h.short, h.shortm⟩, hn⟩
theorem BS.sub (h : BS a b n T R w) {R' : List Row} (p : R'.Sublist R) : BS a b n T R' w := by
  obtain ⟨bs, tv, cv, us, cs, ls, h, hn⟩ := h
  exact ⟨bs, tv, cv, us, cs, ls, ⟨h.rows.sub (p.append (List.Sublist.refl _)), h.c0, h.c1, h.ul, h.cl, h.lm, h.few, h.short, h.shortm⟩, hn⟩
theorem BS.row (h : BS a b n T R w) {x : Row} (hx : x ∈ R) : x.At w a.heap.size := by
  obtain ⟨bs, tv, cv, us, cs, ls, h, hn⟩ := h
  exact h.rows.own x (List.mem_append_left _ hx)
/-- a list that was kept -/
theorem BS.kept (h : BS a b n T R w) {x : Row} (hx : x ∈ T) : x.At w a.heap.size := by
  obtain ⟨bs, tv, cv, us, cs, ls, h, _, _, ht⟩ := h
  exact h.rows.own x (by simp [kRows, ht x hx])
theorem row_own {lo : Nat} {W : World} {v : Value} {l : List It} (h : (tRow kKids v (cellsI l)).At W lo) (hl : l.length ≤ 1000000) : OwnI lo W v l := by
  have h' : W.ownsRow lo 50 2 v (cellsI l).length (cellsI l).flatten := h
  rw [cellsI_length] at h'
  exact ⟨h', hl⟩
theorem cellsI_elem {l : List It} {y : List Value} (h : y ∈ cellsI l) : kKids.ok y := cellsI_ok l y h
theorem BS.keep {u : Value} {l : List It} (h : BS a b n T (tRow kKids u (cellsI l) :: R) w) (hn : n < 240) (hl : l.length ≤ 4000) (hu : ∃ (q : Option Addr) (m c : Nat), u = .slice q m c) :
    Calls Tryz.prog 11 #[.pointer (some ⟨b, 0, none⟩), u] w fun e w' => e = .returned (.tuple #[]) ∧ BS a b (n + 1) (tRow kKids u (cellsI l) :: T) R w' := by
  obtain ⟨bs, tv, cv, us, cs, ls, h, hnil, rfl, ht⟩ := h
  have hul := h.ul
  refine (bookKids_any a w R b bs tv cv u us cs ls (cellsI l) h hn (by rw [cellsI_length]; exact hl) (cellsI_ok l) hu).mono ?_
  rintro e w' ⟨rfl, _, tv', cv', c, hk⟩
  refine ⟨rfl, _, tv', cv', us ++ [u], cs ++ [c], _, hk, hnil.set tv' cv', by simp, fun x hx => ?_⟩
  rw [rowsOf_snoc hul]
  rcases List.mem_cons.1 hx with rfl | q
  · exact List.mem_append_right _ (List.mem_singleton.2 rfl)
  · exact List.mem_append_left _ (ht x q)
theorem BS.apart (h : BS a b n T R w) : Calls Tryz.prog 18 #[.pointer (some ⟨b, 0, none⟩)] w fun e w' => e = .returned (.bool true) ∧ Below a.heap.size a w' := by
  have h0 : BS a b n T [] w := h.sub (List.nil_sublist _)
  obtain ⟨bs, tv, cv, us, cs, ls, h1, hn, _⟩ := h0
  exact apartKids_any a w b bs tv cv us cs ls h1 hn
/-- a new book -/
def book0 : List Value := List.replicate 18 (.slice none 0 0)
theorem BS.start (h : Rws a R w) : BS a w.heap.size 0 [] R (w.alloc (.cells book0.toArray 36)) := by
  have h1 := h.add (Below.refl _ _) (x := vRow kKids (.slice none 0 0) []) (World.ownsRow_nil _ _ _ _)
  have h2 := h1.add (Below.refl _ _) (x := vRow kKids (.slice none 0 0) []) (World.ownsRow_nil _ _ _ _)
  have h3 := h2.new book0 36 (by decide)
  refine ⟨book0, .slice none 0 0, .slice none 0 0, [], [], [], ⟨h3.perm ?_, rfl, rfl, rfl, rfl, rfl, Nat.zero_le _, fun _ q => (by cases q), fun _ q => (by cases q)⟩, fun j h1 _ _ => ?_, rfl, fun _ q => (by cases q)⟩
  · simp only [kRows, rowsOf, List.zipWith_nil_left, List.append_nil]
    exact (List.perm_append_comm (l₁ := [bl w.heap.size book0 36, vRow kKids (.slice none 0 0) [], vRow kKids (.slice none 0 0) []]) (l₂ := R))
  · unfold book0
    rw [List.getElem?_replicate, if_pos h1]
end

end Go.Proofs.YthihjkdankbnjaaGreat.P10
