/-
  P301: a cell is made by the first function that it is handed: the walk of the statement OnceMakes.
-/
import Derived.Test.YtalgbimclagdjaaArgs3
import Derived.Deep.LoopGhost
namespace Go.Proofs.Ytalgbimclagdjaa.P3
open Go Go.RowKit Go.Lib Go.Maps Go.ChangeMaps Go.MapKept

/-- a zero Cell of a text -/
abbrev zCellS : Array Value := #[.int .u32 0, .int .i32 0, .int .u32 0, .int .u32 0, .string ⟨#[]⟩]
theorem zCellS_fresh : Fresh zCellS 0 := ⟨rfl, rfl, rfl, by decide⟩

theorem makes1 (w : World) (bn bl bi k i : Nat) (v : Value) (l : List ByteArray) (hk : k ≤ 1000) (hi : i < l.length) (hn : IntAt w bn k) (hl : w.heap[bl]? = some (.cells #[v] 22 (0, 0))) (hv : StrsIn w v l) (hiv : IntAt w bi i) (n1 : bn ≠ bi) (n2 : ∀ b off c, v = .slice (some ⟨b, off, none⟩) l.length c → bn ≠ b) :
    Calls Try.prog 12 #[.pointer (some ⟨bn, 0, none⟩), .pointer (some ⟨bl, 0, none⟩), .pointer (some ⟨bi, 0, none⟩)] w fun e w' => e = .returned (.string (l.getD i ⟨#[]⟩)) ∧ IntAt w' bn ((k : Int) + 1) ∧ Only bn w w' := by
  have c1 := hn.cell
  have f1 := hn.free
  have b0 : (0 : Int) ≤ (k : Int) := by omega
  have b1 : (k : Int) ≤ 1000 := by omega
  have ho : Only bn w (w.setCell ⟨bn, 0, none⟩ (.int .i64 ((k : Int) + 1))) := (Only.refl _ _).setCell 0 _
  have n3 : bl ≠ bn := by
    rintro rfl
    have := hn
    unfold IntAt at this
    rw [hl] at this
    simp at this
  have c2 : (w.setCell ⟨bn, 0, none⟩ (.int .i64 ((k : Int) + 1))).cell? ⟨bl, 0, none⟩ = some v := by rw [cell_at (ho.keep hl n3)]; rfl
  have c3 := (hiv.only ho n1.symm).cell
  obtain ⟨a, c, rfl, hll, h2⟩ := hv
  obtain ⟨b, off, rfl, hb, he⟩ := h2 (by omega)
  have c4 : (w.setCell ⟨bn, 0, none⟩ (.int .i64 ((k : Int) + 1))).cell? ⟨b, off + i, none⟩ = some (.string (l.getD i ⟨#[]⟩)) := by
    rw [World.cell?_of_block (ho.block b hb (fun e => n2 b off c rfl e.symm))]
    exact he i hi
  obtain ⟨s, hs⟩ : ∃ s, s = l.getD i ⟨#[]⟩ := ⟨_, rfl⟩
  obtain ⟨L, hL⟩ : ∃ L, L = l.length := ⟨_, rfl⟩
  rw [← hs] at c4 ⊢
  rw [← hL] at c2
  have b2 : (i : Int) < (L : Int) := by omega
  have HS := Lib.hid (hn.set ((k : Int) + 1))
  have HO := Lib.hid ho
  clear hn hl hiv ho h2 he hs hL hll n2
  go_enter Try.func12, Try.ntmps12
  go_wp2
  go_ret
  exact ⟨rfl, HS.out, HO.out⟩

theorem en_makes1 : ∀ args w, (callFunc 12 args).run Try.prog w = .ok (.enter 12 args) w := fun args w => enters Try.func12 (by kernel_rfl) rfl args w

/-- where the variables stand, the cell not made: X its block, X + 1 the count of calls, bi the round's variable -/
structure MBef (w : World) (X : Nat) (v : Value) (wr : World) : Prop where
  vl : wr.heap[w.heap.size]? = some (.cells #[v] 22 (0, 0))
  vc : wr.heap[X]? = some (.cells zCellS 38 (0, 0))
  vn : IntAt wr (X + 1) 0
  bel : Below w.heap.size w wr
  lo : w.heap.size < X
/-- .. made: its answer is s, and there were q calls -/
structure MAft (w : World) (X : Nat) (v : Value) (s : ByteArray) (q : Nat) (wr : World) : Prop where
  vl : wr.heap[w.heap.size]? = some (.cells #[v] 22 (0, 0))
  vc : wr.heap[X]? = some (.cells (doneAt zCellS 0 (.string s)) 38 (0, 0))
  vn : IntAt wr (X + 1) q
  bel : Below w.heap.size w wr
  lo : w.heap.size < X
theorem MBef.below {w : World} {X : Nat} {v : Value} {wr w' : World} (h : MBef w X v wr) (hb : Below wr.heap.size wr w') : MBef w X v w' :=
  { h with vl := old_below h.vl hb, vc := old_below h.vc hb, vn := h.vn.below hb, bel := thenBelow h.bel hb }
theorem MAft.below {w : World} {X : Nat} {v : Value} {s : ByteArray} {q : Nat} {wr w' : World} (h : MAft w X v s q wr) (hb : Below wr.heap.size wr w') : MAft w X v s q w' :=
  { h with vl := old_below h.vl hb, vc := old_below h.vc hb, vn := h.vn.below hb, bel := thenBelow h.bel hb }

theorem makes_none (w : World) (X : Nat) (v : Value) (wr : World) (h : MBef w X v wr) :
    Calls Try.prog 11 #[.pointer (some ⟨X, 0, none⟩), .nilFunc] wr fun e w' => e = .returned (.string ⟨#[]⟩) ∧ MAft w X v ⟨#[]⟩ 0 w' := by
  have lo := h.lo
  refine (getS_none wr X 0 zCellS 38 h.vc zCellS_fresh).mono ?_
  rintro e w' ⟨he, w2, _, _, hb', hfr⟩
  exact ⟨he, { vl := hfr.keep h.vl (fun e => e.elim (fun e => by omega) id), vc := hb', vn := h.vn.fr hfr (fun e => e.elim (fun e => by omega) id), bel := hfr.new h.bel (fun i hi => hi.elim (fun e => by omega) (fun e => e.elim)), lo := lo }⟩

theorem makes_first (w : World) (X bi i : Nat) (v : Value) (l : List ByteArray) (wr : World) (hs : StrsIn w v l) (hi : i < l.length) (h : MBef w X v wr) (hiv : IntAt wr bi i) (hbi : X + 1 < bi) :
    Calls Try.prog 11 #[.pointer (some ⟨X, 0, none⟩), .func (.func 12) #[] #[.pointer (some ⟨X + 1, 0, none⟩), .pointer (some ⟨w.heap.size, 0, none⟩), .pointer (some ⟨bi, 0, none⟩)]] wr fun e w' => e = .returned (.string (l.getD i ⟨#[]⟩)) ∧ MAft w X v (l.getD i ⟨#[]⟩) 1 w' ∧ IntAt w' bi i := by
  have lo := h.lo
  have G := getS_first wr X 0 zCellS 38 12 en_makes1 #[.pointer (some ⟨X + 1, 0, none⟩), .pointer (some ⟨w.heap.size, 0, none⟩), .pointer (some ⟨bi, 0, none⟩)] (l.getD i ⟨#[]⟩) (· = X + 1) (fun w2 => IntAt w2 (X + 1) 1) h.vc zCellS_fresh
    (fun k hk => by rw [hk]; exact h.vn.lt) (fun e => by omega)
    (fun wa ho _ => (makes1 wa (X + 1) w.heap.size bi 0 i v l (by omega) hi (h.vn.only ho (by omega)) (ho.keep h.vl (by omega)) (hs.below (h.bel.trans ⟨ho.os, ho.tape, ho.output, ho.size, fun k hk => ho.block k (Nat.lt_of_lt_of_le hk h.bel.size) (by omega)⟩)) (hiv.only ho (by omega)) (by omega)
      (fun b off c hv e => by
        obtain ⟨a, c', h1, _, h2⟩ := hs
        obtain ⟨b', off', h3, h4, _⟩ := h2 (by omega)
        rw [h1, h3] at hv
        simp only [Value.slice.injEq, Option.some.injEq, Addr.mk.injEq] at hv
        omega)).mono fun e w2 ⟨he, hc, ho2⟩ => ⟨he, by simpa using hc, Fr.only ho2 rfl⟩)
  refine G.mono ?_
  rintro e w' ⟨he, w2, r1, ho2, hb', hfr⟩
  exact ⟨he, { vl := hfr.keep h.vl (fun e => by omega), vc := hb', vn := r1.only ho2 (by omega), bel := hfr.new h.bel (fun k hk => by omega), lo := lo }, hiv.fr hfr (fun e => by omega)⟩

theorem makes_next (w : World) (X : Nat) (v : Value) (s : ByteArray) (q : Nat) (wr : World) (h : MAft w X v s q wr) (g : Nat) (caps : Array Value) (bi i : Nat) (hiv : IntAt wr bi i) :
    Calls Try.prog 11 #[.pointer (some ⟨X, 0, none⟩), .func (.func g) #[] caps] wr fun e w' => e = .returned (.string s) ∧ MAft w X v s q w' ∧ IntAt w' bi i :=
  (getS_made wr X 0 _ 38 s _ (.inr ⟨g, caps, rfl⟩) h.vc (done_made zCellS 0 _ (by decide))).mono fun _ _ ⟨he, hb⟩ => ⟨he, h.below hb, hiv.below hb⟩
theorem makes_made (w : World) (X : Nat) (v : Value) (s : ByteArray) (q : Nat) (wr : World) (h : MAft w X v s q wr) : Calls Try.prog 10 #[.pointer (some ⟨X, 0, none⟩)] wr fun e w' => e = .returned (.bool true) ∧ wr = w' :=
  madeS_yes wr X 0 _ 38 h.vc (done_made zCellS 0 (.string s) (by decide)).2.1
theorem makes_unmade (w : World) (X : Nat) (v : Value) (wr : World) (h : MBef w X v wr) : Calls Try.prog 10 #[.pointer (some ⟨X, 0, none⟩)] wr fun e w' => e = .returned (.bool false) ∧ wr = w' :=
  madeS_no wr X 0 _ 38 h.vc rfl

/-- what is told is s, and behind all rounds there were q calls; made is: was the cell made ahead of the rounds -/
def MRel (w : World) (X k : Nat) (v : Value) (s : ByteArray) (q : Nat) (ahead : Prop) (wr : World) : Prop := (k = 0 ∧ ¬ ahead ∧ MBef w X v wr) ∨ ((0 < k ∨ ahead) ∧ MAft w X v s q wr)
theorem MRel.vl {w : World} {X k : Nat} {v : Value} {s : ByteArray} {q : Nat} {ahead : Prop} {wr : World} (h : MRel w X k v s q ahead wr) : wr.cell? ⟨w.heap.size, 0, none⟩ = some v := by
  rcases h with ⟨_, _, h⟩ | ⟨_, h⟩
  · rw [cell_at h.vl]; rfl
  · rw [cell_at h.vl]; rfl
theorem makes_round (w : World) (X bi k : Nat) (v : Value) (l : List ByteArray) (s : ByteArray) (q : Nat) (ahead : Prop) (wr : World) (hs : StrsIn w v l) (hk : k < l.length) (hq : ¬ ahead → q = 1 ∧ s = l.getD 0 ⟨#[]⟩) (h : MRel w X k v s q ahead wr) (hiv : IntAt wr bi k) (hbi : X + 1 < bi) :
    Calls Try.prog 11 #[.pointer (some ⟨X, 0, none⟩), .func (.func 12) #[] #[.pointer (some ⟨X + 1, 0, none⟩), .pointer (some ⟨w.heap.size, 0, none⟩), .pointer (some ⟨bi, 0, none⟩)]] wr fun e w' => e = .returned (.string s) ∧ MAft w X v s q w' ∧ IntAt w' bi k := by
  rcases h with ⟨rfl, hn, h⟩ | ⟨_, h⟩
  · obtain ⟨rfl, rfl⟩ := hq hn
    exact makes_first w X bi 0 v l wr hs hk h hiv hbi
  · exact makes_next w X v s q wr h _ _ bi k hiv

theorem mbef_start (w w1 : World) (v : Value) (hb1 : Below (w.alloc (.cells #[v] 22)).heap.size (w.alloc (.cells #[v] 22)) w1) :
    MBef w w1.heap.size v ((w1.alloc (.cells zCellS 38)).alloc (.cells #[.int .i64 0] 3)) := by
  have e0 := heap_alloc_new w (.cells #[v] 22)
  have e1 := old_below e0 hb1
  have e2 := heap_alloc_new w1 (.cells zCellS 38)
  have e3 := heap_alloc_new (w1.alloc (.cells zCellS 38)) (.cells #[.int .i64 0] 3)
  have hs : ∀ (u : World) (o : Obj), (u.alloc o).heap.size = u.heap.size + 1 := by intro u o; simp
  simp only [hs] at e3
  exact { vl := old_alloc (old_alloc e1 _) _, vc := old_alloc e2 _, vn := e3, bel := grow (grow (thenBelow (below_new w _) hb1) _) _, lo := lt_of_block e1 }

theorem makes_skip (w : World) (v : Value) (l : List ByteArray) (none : Bool) (hs : StrsIn w v l) (h : 50 < l.length) :
    Calls Try.prog 3 #[v, .bool none] w fun r w' => r = .returned (.bool true) ∧ Below w.heap.size w w' := by
  have K := fun w' => Lib.hid (alive_any w')
  obtain ⟨a, c, rfl, hl, _⟩ := hs
  obtain ⟨L, hL⟩ : ∃ L, L = l.length := ⟨_, rfl⟩
  rw [← hL] at h ⊢
  have k1 : decide ((50 : Int) < (L : Int)) = true := decide_eq_true (by omega)
  clear hL hl h
  go_enter Try.func3, Try.ntmps3
  go_wp2_with (go_at_call 9; refine (K _).out.mono ?_; rintro e w1 ⟨rfl, hb⟩)
  go_ret
  exact ⟨rfl, thenBelow (below_new _ _) hb⟩

set_option maxRecDepth 100000 in
theorem makes_none_in (w : World) (v : Value) (l : List ByteArray) (hs : StrsIn w v l) (h : l.length ≤ 50) :
    Calls Try.prog 3 #[v, .bool true] w fun r w' => r = .returned (.bool true) ∧ Below w.heap.size w w' := by
  have K := fun w' => Lib.hid (alive_any w')
  have HSt := Lib.hid hs
  obtain ⟨a, c, hv, hl, _⟩ := hs
  obtain ⟨L, hL⟩ : ∃ L, L = l.length := ⟨_, rfl⟩
  rw [← hL] at h hv
  subst hv
  have HL := Lib.hid hL
  have k1 : decide ((50 : Int) < (L : Int)) = false := decide_eq_false (by omega)
  have b1 : (L : Int) ≤ 50 := by omega
  clear hL hl
  go_enter Try.func3, Try.ntmps3
  go_wp2_with (go_at_call 9; refine (K _).out.mono ?_; rintro e w1 ⟨rfl, hb1⟩)
  have HB := Lib.hid (mbef_start w w1 _ hb1)
  obtain ⟨X, hX⟩ : ∃ X, X = w1.heap.size := ⟨_, rfl⟩
  rw [← hX] at HB ⊢
  clear hX hb1 K
  have HU := Lib.hid (makes_unmade w X _ _ HB.out)
  have HN := Lib.hid (makes_none w X _ _ HB.out)
  go_wp2_with (first
    | (go_at_call 10; (with_reducible refine HU.out.mono ?_); rintro e w2 ⟨rfl, rfl⟩)
    | (go_at_call 11; (with_reducible refine HN.out.mono ?_); rintro e w3 ⟨rfl, hA3⟩))
  have HM := Lib.hid (makes_made w X _ _ _ w3 hA3)
  clear HU HN HB
  have HR0 : Hid (MRel w X 0 (.slice a L c) ⟨#[]⟩ 0 True (w3.alloc (.cells #[.int .i64 0] 3))) := .inr ⟨.inr trivial, hA3.below (below_new w3 _)⟩
  have HI0 : Hid (IntAt (w3.alloc (.cells #[.int .i64 0] 3)) w3.heap.size (0 : Nat)) := IntAt.new w3 0
  have HLT := hA3.vn.lt
  clear hA3
  go_wp2_with (go_at_call 10; (with_reducible refine HM.out.mono ?_); rintro e w4 ⟨rfl, rfl⟩)
  clear HM
  go_loopg [8] (L) (fun g vi wr => ∃ k bi : Nat, k ≤ L ∧ L - k ≤ g ∧ vi = .pointer (some ⟨bi, 0, none⟩) ∧ X + 1 < bi ∧ Hid (MRel w X k (.slice a L c) ⟨#[]⟩ 0 (True) wr) ∧ Hid (IntAt wr bi k))
  case atStart => exact ⟨0, _, Nat.zero_le _, by omega, rfl, HLT, HR0.out, HI0.out⟩
  case round =>
    clear HR0 HI0 HLT
    obtain ⟨k, bi, hk, hg, rfl, hbi, hR, hI⟩ := hrel
    have qi := hI.out.cell
    have ql := hR.out.vl
    by_cases hlt : k < L
    · have b2 : (k : Int) ≤ 50 := by omega
      have b3 : (0 : Int) ≤ (k : Int) := by omega
      have HO := Lib.hid (makes_round w X bi k _ l ⟨#[]⟩ 0 (True) wr HSt.out (by rw [← HL.out]; exact hlt) (fun h => absurd trivial h) hR.out hI.out hbi)
      clear hR
      go_wp2_with (go_at_call 11; (with_reducible refine HO.out.mono ?_); rintro e w5 ⟨rfl, hA5, hI5⟩)
      have HM5 := Lib.hid (makes_made w X _ _ _ w5 hA5)
      have ri := hI5.cell
      have HN5 := Lib.hid (hA5.below (below_new w5 (.cells #[.int .i64 ((k : Int) + 1)] 3)))
      have HI5 := Lib.hid (IntAt.new w5 ((k : Int) + 1))
      have hl5 := hI5.lt
      clear qi ql hA5 hI5 HO
      go_wp2_with (go_at_call 10; (with_reducible refine HM5.out.mono ?_); rintro e w6 ⟨rfl, rfl⟩)
      go_roundg (L - (k + 1))
      case measure => omega
      case rel => exact ⟨k + 1, _, by omega, by omega, rfl, by omega, .inr ⟨.inl (by omega), HN5.out⟩, HI5.out⟩
    · obtain rfl : k = L := by omega
      have hA : MAft w X (.slice a k c) ⟨#[]⟩ 0 wr := by
        rcases hR.out with ⟨_, h, _⟩ | ⟨_, h⟩
        · exact absurd trivial h
        · exact h
      have qn := hA.vn.cell
      have HA := Lib.hid hA
      clear hA hR
      go_wp2
      go_ret
      exact ⟨rfl, HA.out.bel⟩

set_option maxRecDepth 100000 in
theorem makes_some_in (w : World) (v : Value) (l : List ByteArray) (hs : StrsIn w v l) (h : l.length ≤ 50) (h0 : 0 < l.length) :
    Calls Try.prog 3 #[v, .bool false] w fun r w' => r = .returned (.bool true) ∧ Below w.heap.size w w' := by
  have K := fun w' => Lib.hid (alive_any w')
  have HSt := Lib.hid hs
  obtain ⟨a, c, hv, hl, h2⟩ := hs
  obtain ⟨b, off, rfl, hb, he⟩ := h2 h0
  have e0 := he 0 h0
  obtain ⟨L, hL⟩ : ∃ L, L = l.length := ⟨_, rfl⟩
  obtain ⟨s, hsd⟩ : ∃ s, s = l.getD 0 ⟨#[]⟩ := ⟨_, rfl⟩
  rw [← hsd] at e0
  rw [← hL] at h hv h0
  subst hv
  have HL := Lib.hid hL
  have HS := Lib.hid hsd
  have k1 : decide ((50 : Int) < (L : Int)) = false := decide_eq_false (by omega)
  have b1 : (L : Int) ≤ 50 := by omega
  have b0 : (0 : Int) < (L : Int) := by omega
  clear hL hl hsd h2 he
  have E0 := Lib.hid e0
  clear e0
  go_enter Try.func3, Try.ntmps3
  go_wp2_with (go_at_call 9; refine (K _).out.mono ?_; rintro e w1 ⟨rfl, hb1⟩)
  have HB := Lib.hid (mbef_start w w1 _ hb1)
  obtain ⟨X, hX⟩ : ∃ X, X = w1.heap.size := ⟨_, rfl⟩
  rw [← hX] at HB ⊢
  clear hX hb1 K
  have HU := Lib.hid (makes_unmade w X _ _ HB.out)
  generalize (w1.alloc (.cells zCellS 38)).alloc (.cells #[.int .i64 0] 3) = w2 at *
  have e0 : w2.cell? ⟨b, off, none⟩ = some (.string s) := by rw [HB.out.bel.cell (p := ⟨b, off, none⟩) hb]; exact E0.out
  have ql : w2.cell? ⟨w.heap.size, 0, none⟩ = some (.slice (some ⟨b, off, none⟩) L c) := by rw [cell_at HB.out.vl]; rfl
  have HR0 : Hid (MRel w X 0 (.slice (some ⟨b, off, none⟩) L c) s 1 False (w2.alloc (.cells #[.int .i64 0] 3))) := .inl ⟨rfl, id, HB.out.below (below_new w2 _)⟩
  have HI0 : Hid (IntAt (w2.alloc (.cells #[.int .i64 0] 3)) w2.heap.size (0 : Nat)) := IntAt.new w2 0
  have HLT := HB.out.vn.lt
  clear HB E0
  go_wp2_with (go_at_call 10; (with_reducible refine HU.out.mono ?_); rintro e w2 ⟨rfl, rfl⟩)
  clear HU e0 ql
  have hc : (s.toList == s.toList) = true := beq_self_eq_true _
  go_loopg [8] (L) (fun g vi wr => ∃ k bi : Nat, k ≤ L ∧ L - k ≤ g ∧ vi = .pointer (some ⟨bi, 0, none⟩) ∧ X + 1 < bi ∧ Hid (MRel w X k (.slice (some ⟨b, off, none⟩) L c) s 1 (False) wr) ∧ Hid (IntAt wr bi k))
  case atStart => exact ⟨0, _, Nat.zero_le _, by omega, rfl, HLT, HR0.out, HI0.out⟩
  case round =>
    clear HR0 HI0 HLT
    obtain ⟨k, bi, hk, hg, rfl, hbi, hR, hI⟩ := hrel
    have qi := hI.out.cell
    have ql := hR.out.vl
    by_cases hlt : k < L
    · have b2 : (k : Int) ≤ 50 := by omega
      have b3 : (0 : Int) ≤ (k : Int) := by omega
      have HO := Lib.hid (makes_round w X bi k _ l s 1 (False) wr HSt.out (by rw [← HL.out]; exact hlt) (fun _ => ⟨rfl, HS.out⟩) hR.out hI.out hbi)
      clear hR
      go_wp2_with (go_at_call 11; (with_reducible refine HO.out.mono ?_); rintro e w5 ⟨rfl, hA5, hI5⟩)
      have HM5 := Lib.hid (makes_made w X _ _ _ w5 hA5)
      have ri := hI5.cell
      have HN5 := Lib.hid (hA5.below (below_new w5 (.cells #[.int .i64 ((k : Int) + 1)] 3)))
      have HI5 := Lib.hid (IntAt.new w5 ((k : Int) + 1))
      have hl5 := hI5.lt
      clear qi ql hA5 hI5 HO
      go_wp2_with (go_at_call 10; (with_reducible refine HM5.out.mono ?_); rintro e w6 ⟨rfl, rfl⟩)
      go_roundg (L - (k + 1))
      case measure => omega
      case rel => exact ⟨k + 1, _, by omega, by omega, rfl, by omega, .inr ⟨.inl (by omega), HN5.out⟩, HI5.out⟩
    · obtain rfl : k = L := by omega
      have hA : MAft w X (.slice (some ⟨b, off, none⟩) k c) s 1 wr := by
        rcases hR.out with ⟨h, _⟩ | ⟨_, h⟩
        · omega
        · exact h
      have qn := hA.vn.cell
      have HA := Lib.hid hA
      clear hA hR
      go_wp2
      go_ret
      exact ⟨rfl, HA.out.bel⟩

set_option maxRecDepth 100000 in
theorem makes_empty_in (w : World) (v : Value) (l : List ByteArray) (hs : StrsIn w v l) (h0 : l.length = 0) :
    Calls Try.prog 3 #[v, .bool false] w fun r w' => r = .returned (.bool true) ∧ Below w.heap.size w w' := by
  have K := fun w' => Lib.hid (alive_any w')
  obtain ⟨a, c, hv, hl, h2⟩ := hs
  rw [h0] at hv
  subst hv
  clear hl h2 h0
  go_enter Try.func3, Try.ntmps3
  go_wp2_with (go_at_call 9; refine (K _).out.mono ?_; rintro e w1 ⟨rfl, hb1⟩)
  have HB := Lib.hid (mbef_start w w1 _ hb1)
  obtain ⟨X, hX⟩ : ∃ X, X = w1.heap.size := ⟨_, rfl⟩
  rw [← hX] at HB ⊢
  clear hX hb1 K
  have HU := Lib.hid (makes_unmade w X _ _ HB.out)
  generalize (w1.alloc (.cells zCellS 38)).alloc (.cells #[.int .i64 0] 3) = w2 at *
  have ql : w2.cell? ⟨w.heap.size, 0, none⟩ = some (.slice a 0 c) := by rw [cell_at HB.out.vl]; rfl
  have HR0 : Hid (MBef w X (.slice a 0 c) (w2.alloc (.cells #[.int .i64 0] 3))) := HB.out.below (below_new w2 _)
  have HI0 : Hid (IntAt (w2.alloc (.cells #[.int .i64 0] 3)) w2.heap.size 0) := IntAt.new w2 0
  clear HB
  go_wp2_with (go_at_call 10; (with_reducible refine HU.out.mono ?_); rintro e w2 ⟨rfl, rfl⟩)
  clear HU ql
  go_loopg [8] 0 (fun _ vi wr => ∃ bi : Nat, vi = .pointer (some ⟨bi, 0, none⟩) ∧ Hid (MBef w X (.slice a 0 c) wr) ∧ Hid (IntAt wr bi 0))
  case atStart => exact ⟨_, rfl, HR0.out, HI0.out⟩
  case round =>
    clear HR0 HI0
    obtain ⟨bi, rfl, hR, hI⟩ := hrel
    have qi := hI.out.cell
    have ql : wr.cell? ⟨w.heap.size, 0, none⟩ = some (.slice a 0 c) := by rw [cell_at hR.out.vl]; rfl
    have qn := hR.out.vn.cell
    go_wp2
    go_ret
    exact ⟨rfl, hR.out.bel⟩

theorem makes_walk (w : World) (v : Value) (l : List ByteArray) (hs : StrsIn w v l) (none : Bool) :
    Calls Try.prog 3 #[v, .bool none] w fun r w' => r = .returned (.bool true) ∧ Below w.heap.size w w' := by
  by_cases h : l.length ≤ 50
  · cases none with
    | true => exact makes_none_in w v l hs h
    | false =>
      by_cases h0 : 0 < l.length
      · exact makes_some_in w v l hs h h0
      · exact makes_empty_in w v l hs (by omega)
  · exact makes_skip w v l none hs (by omega)

end Go.Proofs.Ytalgbimclagdjaa.P3
