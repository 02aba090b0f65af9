/-
  Texts of the proof of SaidKeeps8, side by side: Kp2, Mt7.
-/
import Derived.Test.YtbkngnjkaledlaaGreatMk42
import Derived.Test.YtbkngnjkaledlaaGreatMk39
/-
  StoreKeeps: the two lists of pages, made one page after the other.
-/
namespace Go.Proofs.YtbkngnjkaledlaaGreat.P8
open Go Go.RowKit Go.Lib Go.Maps Go.ChangeMaps Go.MapKept Go.Proofs.YtbkngnjkaledlaaGreat.P3 Go.Proofs.YtbkngnjkaledlaaGreat.P4
open Go.Proofs.YtbkngnjkaledlaaGreat.P5 (Pg rValid_any)

def cellsL (xs : List Pg) : List Value := xs.flatMap fun p => p.cells.toList
theorem infoPage : (Tryz.prog.info? 47).map (fun i => (i.zero, i.size, i.bytes)) = some (some (.agg #[.int .i64 0, .int .i64 0, .int .i64 0, .string ⟨#[]⟩]), 4, 40) := by kernel_rfl
theorem cells4_new (w : World) (x y z t : Value) (e : TypeId) : ∀ (j : Nat) (u : Value), [x, y, z, t][j]? = some u → (w.alloc (.cells #[x, y, z, t] e)).cell? ((⟨w.heap.size, 0, none⟩ : Addr).add j) = some u := by
  intro j u hu
  rw [Go.WideShapes.add_plain, Nat.zero_add, P3.cell_at (P3.new_at w _ _)]
  rw [← hu]
  simp
theorem cellsL_len (xs : List Pg) : (cellsL xs).length = xs.length * 4 := by
  unfold cellsL
  induction xs with
  | nil => rfl
  | cons p xs ih => rw [List.flatMap_cons, List.length_append, ih, List.length_cons]; show 4 + _ = _; omega
theorem cellsL_at {xs : List Pg} : ∀ {i : Nat} {p : Pg}, xs[i]? = some p → ∀ (j : Nat) (u : Value), p.cells.toList[j]? = some u → (cellsL xs)[i * 4 + j]? = some u := by
  induction xs with
  | nil => intro i p h; simp at h
  | cons q xs ih =>
    intro i p h j u hu
    have hj : j < 4 := (List.getElem?_eq_some_iff.1 hu).1
    unfold cellsL
    rw [List.flatMap_cons]
    cases i with
    | zero =>
      obtain rfl : q = p := by simpa using h
      rw [Nat.zero_mul, Nat.zero_add, List.getElem?_append_left (by show j < 4; exact hj)]
      exact hu
    | succ i =>
      rw [List.getElem?_append_right (by show 4 ≤ _; omega)]
      have e : (i + 1) * 4 + j - q.cells.toList.length = i * 4 + j := by show _ - 4 = _; omega
      rw [e]
      exact ih (by simpa using h) j u hu
/-- a row of pages of one's own -/
structure SR (ok : Pg → Prop) (w : World) (v : Value) (xs : List Pg) (W : World) : Prop where
  own : W.ownsRow w.heap.size 47 4 v xs.length (cellsL xs)
  ok : ∀ p ∈ xs, ok p
  below : Below w.heap.size w W
section
variable {ok : Pg → Prop} {w W W' : World} {v : Value} {xs : List Pg}
theorem SR.nil (w W : World) (h : Below w.heap.size w W) : SR ok w (.slice none 0 0) [] W := ⟨World.ownsRow_nil _ _ _ _, fun p hp => (by cases hp), h⟩
theorem SR.over (h : SR ok w v xs W) (hb : Below W.heap.size W W') : SR ok w v xs W' := ⟨P0.owns_below h.own hb, h.ok, thenBelow h.below hb⟩
theorem SR.pages (h : SR ok w v xs W) (hl : xs.length ≤ 100000) : PagesIn W v xs ∧ ∀ B off c, v = .slice (some ⟨B, off, none⟩) 0 c → B < W.heap.size := by
  have hown := h.own
  rcases h.own.2 with ⟨e, h0⟩ | ⟨g, cap, cur, e, h2, h3, h4, h5, _⟩
  · subst e
    have hx : xs = [] := List.eq_nil_of_length_eq_zero h0
    subst hx
    exact ⟨⟨none, 0, rfl, by decide, fun q => absurd q (Nat.lt_irrefl _)⟩, fun B off c q => (by cases q)⟩
  · subst e
    refine ⟨⟨some ⟨g, 0, none⟩, cap, rfl, by omega, fun _ => ⟨g, 0, rfl, P3.lt_of_block h3, fun i p hp j u hu => ?_⟩⟩, fun B off c q => ?_⟩
    have := hown.cells rfl _ _ (cellsL_at hp j u hu)
    rw [Go.WideShapes.add_plain, Nat.zero_add] at this
    rw [Nat.zero_add]
    · exact this
    · simp only [Value.slice.injEq, Option.some.injEq, Addr.mk.injEq] at q
      rw [← q.1.1]
      exact P3.lt_of_block h3
theorem SR.push {p : Pg} {v' : Value} {o : Obj} {W2 : World} (h : SR ok w v xs W) (hp : ok p) (hown : W2.ownsRow w.heap.size 47 4 v' (xs.length + 1) (cellsL xs ++ p.cells.toList)) (hgrow : (W.alloc o).grownBy W2 v.ownBlock) : SR ok w v' (xs ++ [p]) W2 := by
  refine ⟨?_, fun q hq => ?_, (P3.grow h.below o).grown hgrow (by have := h.below.size; simp; omega) (fun k hk => (h.own.lt k hk).1)⟩
  · have e : cellsL (xs ++ [p]) = cellsL xs ++ p.cells.toList := by unfold cellsL; simp
    rw [e, List.length_append]
    exact hown
  · rcases List.mem_append.1 hq with hq | hq
    · exact h.ok q hq
    · rw [List.mem_singleton.1 hq]; exact hp
/-- a page in the argument, whatever has been made since -/
theorem page_at {v0 : Value} {l : List Pg} {i : Nat} {p : Pg} (h : PagesIn w v0 l) (hp : l[i]? = some p) : ∃ B off c, v0 = .slice (some ⟨B, off, none⟩) l.length c ∧ ∀ W, Below w.heap.size w W → W.cell? ⟨B, off + i * 4, none⟩ = some (.int .i64 p.k) ∧ W.cell? ⟨B, off + i * 4 + 1, none⟩ = some (.int .i64 p.id) ∧ W.cell? ⟨B, off + i * 4 + 2, none⟩ = some (.int .i64 p.tx) ∧ W.cell? ⟨B, off + i * 4 + 3, none⟩ = some (.string p.body) := by
  obtain ⟨a, c, rfl, h1, h2⟩ := h
  obtain ⟨B, off, rfl, h3, h4⟩ := h2 (by have := (List.getElem?_eq_some_iff.1 hp).1; omega)
  refine ⟨B, off, c, rfl, fun W hb => ?_⟩
  have hc : ∀ (j : Nat) (u : Value), p.cells.toList[j]? = some u → W.cell? ⟨B, off + i * 4 + j, none⟩ = some u := fun j u hj => by rw [hb.cell (p := ⟨B, off + i * 4 + j, none⟩) h3]; exact h4 i p hp j u hj
  exact ⟨hc 0 _ rfl, hc 1 _ rfl, hc 2 _ rfl, hc 3 _ rfl⟩
theorem SR.mono {ok2 : Pg → Prop} (h : SR ok w v xs W) (k : ∀ p, ok p → ok2 p) : SR ok2 w v xs W := ⟨h.own, fun p hp => k p (h.ok p hp), h.below⟩
end
def okS (p : Pg) : Prop := okPut p ∧ p.id ≤ 40
def okR (p : Pg) : Prop := okPut p ∧ 41 ≤ p.id ∧ p.id ≤ 55
theorem keeps_lists {w w1 w2 : World} {v1 v2 v3 : Value} {xs ys : List Pg} {ks : List Int} (h1 : SR okS w v1 xs w1) (h2 : SR okR w1 v2 ys w2) (h3 : IntsIn w v3 ks) (l1 : xs.length ≤ 15) (l2 : ys.length ≤ 15) : KL w2 v1 v2 v3 xs ys ks := by
  obtain ⟨p1, q1⟩ := (h1.over h2.below).pages (by omega)
  obtain ⟨p2, q2⟩ := h2.pages (by omega)
  exact ⟨p1, p2, h3.below (thenBelow h1.below h2.below), l1, l2, h1.ok, h2.ok, q1, q2⟩
theorem keeps_last {a W : World} {b i : Nat} {xs : List Pg} {o : Option AF} {p : Pg} (hk : KeptF xs o) (hp : xs[i]? = some p) (hl : ∀ (j : Nat) (q : Pg), i < j → xs[j]? = some q → q.id ≠ p.id) (h : KW a W b xs o) :
    Calls Tryz.prog 17 #[.pointer (some ⟨b, 0, none⟩), .int .i64 p.id] W fun e w' => e = .returned (.tuple #[.agg #[.int .i64 p.k, .int .i64 p.id, .int .i64 p.tx, .string p.body], .int .i64 0]) ∧ KW a w' b xs o := by
  obtain ⟨hi, he⟩ := List.getElem?_eq_some_iff.1 hp
  have e : xs = xs.take i ++ p :: xs.drop (i + 1) := by
    rw [← he, ← List.drop_eq_getElem_cons hi, List.take_append_drop]
  have q := hk.have_ (xs.take i) (xs.drop (i + 1)) p e (fun q hq => by
    obtain ⟨j, hj, hj2⟩ := List.mem_iff_getElem.1 hq
    rw [List.getElem_drop] at hj2
    rw [List.length_drop] at hj
    exact hl (i + 1 + j) q (by omega) (by rw [List.getElem?_eq_getElem (by omega), hj2])) [97]
  refine (h.get p.id).mono ?_
  rw [q]
  rintro e w' ⟨rfl, h2⟩
  exact ⟨rfl, h2⟩
end Go.Proofs.YtbkngnjkaledlaaGreat.P8

/-
  Package meta's Valid and Slot, and the reference's ValidMeta, by contracts. (Written by gen_meta7.py.)
-/
namespace Go.Proofs.YtbkngnjkaledlaaGreat.P6
open Go Go.RowKit Go.Lib Go.Proofs.YtbkngnjkaledlaaGreat.P0 Go.Proofs.YtbkngnjkaledlaaGreat.P2 Go.Proofs.YtbkngnjkaledlaaGreat.P5

theorem leads_any (w : World) (i p : Int) :
    Calls Tryz.prog 127 #[.int .i64 i, .int .i64 p] w fun r w' => r = .returned (.bool (decide (Leads i p))) ∧ w = w' := by
  by_cases h1 : i = 0
  · have e : decide (Leads i p) = true := decide_eq_true (.inl h1)
    rw [e]
    clear e
    have b1 : (i == 0) = true := by simp; omega
    go_enter Tryz.func127, Tryz.ntmps127
    go_wp2
    go_ret
    exact ⟨rfl, rfl⟩
  · have b1 : (i == 0) = false := by simp; omega
    by_cases h2 : 2 ≤ i
    · have b2 : decide ((2 : Int) ≤ i) = true := decide_eq_true h2
      by_cases h3 : i < p
      · have e : decide (Leads i p) = true := decide_eq_true (.inr ⟨h2, h3⟩)
        rw [e]
        clear e
        have b3 : decide (i < p) = true := decide_eq_true h3
        go_enter Tryz.func127, Tryz.ntmps127
        go_wp2
        go_ret
        exact ⟨rfl, rfl⟩
      · have e : decide (Leads i p) = false := decide_eq_false (show ¬ (i = 0 ∨ (2 ≤ i ∧ i < p)) by omega)
        rw [e]
        clear e
        have b3 : decide (i < p) = false := decide_eq_false h3
        go_enter Tryz.func127, Tryz.ntmps127
        go_wp2
        go_ret
        exact ⟨rfl, rfl⟩
    · have e : decide (Leads i p) = false := decide_eq_false (show ¬ (i = 0 ∨ (2 ≤ i ∧ i < p)) by omega)
      rw [e]
      clear e
      have b2 : decide ((2 : Int) ≤ i) = false := decide_eq_false h2
      go_enter Tryz.func127, Tryz.ntmps127
      go_wp2
      go_ret
      exact ⟨rfl, rfl⟩

/-- a number's lowest bit -/
theorem and_one (x : Int) (h : 0 ≤ x) (h2 : x < 9223372036854775808) : bits .and .i64 x 1 = x % 2 := by
  obtain ⟨x, rfl⟩ := Int.eq_ofNat_of_zero_le h
  have hm : (BitVec.ofInt 64 1).toNat = 2 ^ 1 - 1 := by decide
  have key : (BitVec.ofInt 64 (x : Int) &&& BitVec.ofInt 64 1).toNat = ((x : Int) % ((2 ^ 64 : Nat) : Int)).toNat % 2 ^ 1 := by
    rw [BitVec.toNat_and, BitVec.toNat_ofInt, hm, Nat.and_two_pow_sub_one_eq_mod]
  show IntKind.i64.wrap ((BitVec.ofInt 64 (x : Int) &&& BitVec.ofInt 64 1).toNat : Nat) = _
  rw [key, IntKind.wrap_i64]
  omega
theorem slot_any (w : World) (x : Int) (h : 0 ≤ x) (h2 : x < 9223372036854775808) :
    Calls Tryz.prog 42 #[.int .i64 x] w fun r w' => r = .returned (.int .i64 (x % 2)) ∧ w = w' := by
  have e := and_one x h h2
  go_enter Tryz.func42, Tryz.ntmps42
  go_wp2
  go_ret
  exact ⟨by rw [← e]; rfl, rfl⟩

set_option maxHeartbeats 4000000 in
theorem mvalid_any (w : World) (m : Mt) :
    Calls Tryz.prog 89 #[m.v] w fun r w' => r = .returned (.bool (decide m.ok)) ∧ Below w.heap.size w w' := by
  obtain ⟨tx, root, free, pages⟩ := m
  have LR := fun W => Lib.hid (leads_any W root pages)
  have LF := fun W => Lib.hid (leads_any W free pages)
  by_cases h1 : 1 ≤ tx
  · skip
    have b1 : decide ((1 : Int) ≤ tx) = true := decide_eq_true (by omega)
    by_cases h2 : tx ≤ 1099511627776
    · skip
      have b2 : decide (tx ≤ 1099511627776) = true := decide_eq_true (by omega)
      by_cases h3 : 2 ≤ pages
      · skip
        have b3 : decide ((2 : Int) ≤ pages) = true := decide_eq_true (by omega)
        by_cases h4 : pages ≤ 4000
        · skip
          have b4 : decide (pages ≤ 4000) = true := decide_eq_true (by omega)
          by_cases h5 : root = 0 ∨ (2 ≤ root ∧ root < pages)
          · skip
            rw [decide_eq_true (show Leads root pages from h5)] at LR
            by_cases h6 : free = 0 ∨ (2 ≤ free ∧ free < pages)
            · skip
              rw [decide_eq_true (show Leads free pages from h6)] at LF
              by_cases h7 : root = 0
              · skip
                have b7 : (root == 0) = true := by simp; omega
                have e : decide (Mt.ok ⟨tx, root, free, pages⟩) = true := decide_eq_true (show (1 ≤ tx ∧ tx ≤ 1099511627776) ∧ (2 ≤ pages ∧ pages ≤ 4000) ∧ (root = 0 ∨ (2 ≤ root ∧ root < pages)) ∧ (free = 0 ∨ (2 ≤ free ∧ free < pages)) ∧ (root = 0 ∨ root ≠ free) by omega)
                rw [e]
                clear e h1 h2 h3 h4 h5 h6 h7
                unfold Mt.v
                go_enter Tryz.func89, Tryz.ntmps89
                go_wp2_with (first | (go_at_call 127; (with_reducible refine (LR _).out.mono ?_); rintro e w1 ⟨rfl, rfl⟩) | (go_at_call 127; (with_reducible refine (LF _).out.mono ?_); rintro e w1 ⟨rfl, rfl⟩))
                go_ret
                exact ⟨rfl, below_new _ _⟩
              · skip
                have b7 : (root == 0) = false := by simp; omega
                by_cases h8 : root = free
                · skip
                  have b8 : (root != free) = false := by simp; omega
                  have e : decide (Mt.ok ⟨tx, root, free, pages⟩) = false := decide_eq_false (show ¬ ((1 ≤ tx ∧ tx ≤ 1099511627776) ∧ (2 ≤ pages ∧ pages ≤ 4000) ∧ (root = 0 ∨ (2 ≤ root ∧ root < pages)) ∧ (free = 0 ∨ (2 ≤ free ∧ free < pages)) ∧ (root = 0 ∨ root ≠ free)) by omega)
                  rw [e]
                  clear e h1 h2 h3 h4 h5 h6 h7 h8
                  unfold Mt.v
                  go_enter Tryz.func89, Tryz.ntmps89
                  go_wp2_with (first | (go_at_call 127; (with_reducible refine (LR _).out.mono ?_); rintro e w1 ⟨rfl, rfl⟩) | (go_at_call 127; (with_reducible refine (LF _).out.mono ?_); rintro e w1 ⟨rfl, rfl⟩))
                  go_ret
                  exact ⟨rfl, below_new _ _⟩
                · skip
                  have b8 : (root != free) = true := by simp; omega
                  have e : decide (Mt.ok ⟨tx, root, free, pages⟩) = true := decide_eq_true (show (1 ≤ tx ∧ tx ≤ 1099511627776) ∧ (2 ≤ pages ∧ pages ≤ 4000) ∧ (root = 0 ∨ (2 ≤ root ∧ root < pages)) ∧ (free = 0 ∨ (2 ≤ free ∧ free < pages)) ∧ (root = 0 ∨ root ≠ free) by omega)
                  rw [e]
                  clear e h1 h2 h3 h4 h5 h6 h7 h8
                  unfold Mt.v
                  go_enter Tryz.func89, Tryz.ntmps89
                  go_wp2_with (first | (go_at_call 127; (with_reducible refine (LR _).out.mono ?_); rintro e w1 ⟨rfl, rfl⟩) | (go_at_call 127; (with_reducible refine (LF _).out.mono ?_); rintro e w1 ⟨rfl, rfl⟩))
                  go_ret
                  exact ⟨rfl, below_new _ _⟩
            · skip
              rw [decide_eq_false (show ¬ Leads free pages from h6)] at LF
              have e : decide (Mt.ok ⟨tx, root, free, pages⟩) = false := decide_eq_false (show ¬ ((1 ≤ tx ∧ tx ≤ 1099511627776) ∧ (2 ≤ pages ∧ pages ≤ 4000) ∧ (root = 0 ∨ (2 ≤ root ∧ root < pages)) ∧ (free = 0 ∨ (2 ≤ free ∧ free < pages)) ∧ (root = 0 ∨ root ≠ free)) by omega)
              rw [e]
              clear e h1 h2 h3 h4 h5 h6
              unfold Mt.v
              go_enter Tryz.func89, Tryz.ntmps89
              go_wp2_with (first | (go_at_call 127; (with_reducible refine (LR _).out.mono ?_); rintro e w1 ⟨rfl, rfl⟩) | (go_at_call 127; (with_reducible refine (LF _).out.mono ?_); rintro e w1 ⟨rfl, rfl⟩))
              go_ret
              exact ⟨rfl, below_new _ _⟩
          · skip
            rw [decide_eq_false (show ¬ Leads root pages from h5)] at LR
            have e : decide (Mt.ok ⟨tx, root, free, pages⟩) = false := decide_eq_false (show ¬ ((1 ≤ tx ∧ tx ≤ 1099511627776) ∧ (2 ≤ pages ∧ pages ≤ 4000) ∧ (root = 0 ∨ (2 ≤ root ∧ root < pages)) ∧ (free = 0 ∨ (2 ≤ free ∧ free < pages)) ∧ (root = 0 ∨ root ≠ free)) by omega)
            rw [e]
            clear e h1 h2 h3 h4 h5
            unfold Mt.v
            go_enter Tryz.func89, Tryz.ntmps89
            go_wp2_with (first | (go_at_call 127; (with_reducible refine (LR _).out.mono ?_); rintro e w1 ⟨rfl, rfl⟩) | (go_at_call 127; (with_reducible refine (LF _).out.mono ?_); rintro e w1 ⟨rfl, rfl⟩))
            go_ret
            exact ⟨rfl, below_new _ _⟩
        · skip
          have b4 : decide (pages ≤ 4000) = false := decide_eq_false (by omega)
          have e : decide (Mt.ok ⟨tx, root, free, pages⟩) = false := decide_eq_false (show ¬ ((1 ≤ tx ∧ tx ≤ 1099511627776) ∧ (2 ≤ pages ∧ pages ≤ 4000) ∧ (root = 0 ∨ (2 ≤ root ∧ root < pages)) ∧ (free = 0 ∨ (2 ≤ free ∧ free < pages)) ∧ (root = 0 ∨ root ≠ free)) by omega)
          rw [e]
          clear e h1 h2 h3 h4
          unfold Mt.v
          go_enter Tryz.func89, Tryz.ntmps89
          go_wp2_with (first | (go_at_call 127; (with_reducible refine (LR _).out.mono ?_); rintro e w1 ⟨rfl, rfl⟩) | (go_at_call 127; (with_reducible refine (LF _).out.mono ?_); rintro e w1 ⟨rfl, rfl⟩))
          go_ret
          exact ⟨rfl, below_new _ _⟩
      · skip
        have b3 : decide ((2 : Int) ≤ pages) = false := decide_eq_false (by omega)
        have e : decide (Mt.ok ⟨tx, root, free, pages⟩) = false := decide_eq_false (show ¬ ((1 ≤ tx ∧ tx ≤ 1099511627776) ∧ (2 ≤ pages ∧ pages ≤ 4000) ∧ (root = 0 ∨ (2 ≤ root ∧ root < pages)) ∧ (free = 0 ∨ (2 ≤ free ∧ free < pages)) ∧ (root = 0 ∨ root ≠ free)) by omega)
        rw [e]
        clear e h1 h2 h3
        unfold Mt.v
        go_enter Tryz.func89, Tryz.ntmps89
        go_wp2_with (first | (go_at_call 127; (with_reducible refine (LR _).out.mono ?_); rintro e w1 ⟨rfl, rfl⟩) | (go_at_call 127; (with_reducible refine (LF _).out.mono ?_); rintro e w1 ⟨rfl, rfl⟩))
        go_ret
        exact ⟨rfl, below_new _ _⟩
    · skip
      have b2 : decide (tx ≤ 1099511627776) = false := decide_eq_false (by omega)
      have e : decide (Mt.ok ⟨tx, root, free, pages⟩) = false := decide_eq_false (show ¬ ((1 ≤ tx ∧ tx ≤ 1099511627776) ∧ (2 ≤ pages ∧ pages ≤ 4000) ∧ (root = 0 ∨ (2 ≤ root ∧ root < pages)) ∧ (free = 0 ∨ (2 ≤ free ∧ free < pages)) ∧ (root = 0 ∨ root ≠ free)) by omega)
      rw [e]
      clear e h1 h2
      unfold Mt.v
      go_enter Tryz.func89, Tryz.ntmps89
      go_wp2_with (first | (go_at_call 127; (with_reducible refine (LR _).out.mono ?_); rintro e w1 ⟨rfl, rfl⟩) | (go_at_call 127; (with_reducible refine (LF _).out.mono ?_); rintro e w1 ⟨rfl, rfl⟩))
      go_ret
      exact ⟨rfl, below_new _ _⟩
  · skip
    have b1 : decide ((1 : Int) ≤ tx) = false := decide_eq_false (by omega)
    have e : decide (Mt.ok ⟨tx, root, free, pages⟩) = false := decide_eq_false (show ¬ ((1 ≤ tx ∧ tx ≤ 1099511627776) ∧ (2 ≤ pages ∧ pages ≤ 4000) ∧ (root = 0 ∨ (2 ≤ root ∧ root < pages)) ∧ (free = 0 ∨ (2 ≤ free ∧ free < pages)) ∧ (root = 0 ∨ root ≠ free)) by omega)
    rw [e]
    clear e h1
    unfold Mt.v
    go_enter Tryz.func89, Tryz.ntmps89
    go_wp2_with (first | (go_at_call 127; (with_reducible refine (LR _).out.mono ?_); rintro e w1 ⟨rfl, rfl⟩) | (go_at_call 127; (with_reducible refine (LF _).out.mono ?_); rintro e w1 ⟨rfl, rfl⟩))
    go_ret
    exact ⟨rfl, below_new _ _⟩

end Go.Proofs.YtbkngnjkaledlaaGreat.P6
