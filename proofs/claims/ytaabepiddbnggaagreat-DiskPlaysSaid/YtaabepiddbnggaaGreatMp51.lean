/-
  Texts of the proof of SaidPlays, side by side: Pl1, LtP.
-/
import Derived.Test.YtaabepiddbnggaaGreatMp50
import Derived.Test.YtaabepiddbnggaaGreatMp38
/-
  DiskPlays: what the walk has between its calls, in a few words.
-/
namespace Go.Proofs.YtaabepiddbnggaaGreat.P4
open Go Go.RowKit Go.Lib Go.Maps Go.ChangeMaps Go.MapKept Go.Proofs.YtaabepiddbnggaaGreat.P3

section
variable {a w w' w1 w2 : World} {d r t u b i : Nat} {nm : ByteArray} {v : Value} {L : List ByteArray}
theorem PB_over {R : List PB.Row} {tv cv : Value} {us cs : List Value} {ls ms : List (List ByteArray)} (h : PB.Bk a R b tv cv us cs ls ms w) (hb : Below w.heap.size w w') : PB.Bk a R b tv cv us cs ls ms w' := h.over hb
/-- the book, with at most n lists -/
def BkN (a w : World) (b n : Nat) : Prop := ∃ tv cv us cs ls, ls.length ≤ n ∧ PB.Bk a [] b tv cv us cs ls ls w
theorem BkN.over {n : Nat} (h : BkN a w b n) (hb : Below w.heap.size w w') : BkN a w' b n := by
  obtain ⟨tv, cv, us, cs, ls, h1, h2⟩ := h
  exact ⟨tv, cv, us, cs, ls, h1, h2.over hb⟩
/-- both disks, of at most n writes -/
def PrN (a w : World) (d r n : Nat) : Prop := ∃ K D ks, Pr a w d K r D ks ∧ K.turn ≤ n
theorem PrN.over {n : Nat} (h : PrN a w d r n) (hb : Below w.heap.size w w') : PrN a w' d r n := by
  obtain ⟨K, D, ks, h1, h2⟩ := h
  exact ⟨K, D, ks, h1.over hb, h2⟩
theorem PrN.le {n m : Nat} (h : PrN a w d r n) (hm : n ≤ m) : PrN a w d r m := by
  obtain ⟨K, D, ks, h1, h2⟩ := h
  exact ⟨K, D, ks, h1, Nat.le_trans h2 hm⟩
theorem PrN.below {n : Nat} (h : PrN a w d r n) : Below a.heap.size a w := by
  obtain ⟨K, D, ks, h1, h2⟩ := h
  exact h1.below
theorem BkN.le {n m : Nat} (h : BkN a w b n) (hm : n ≤ m) : BkN a w b m := by
  obtain ⟨tv, cv, us, cs, ls, h1, h2⟩ := h
  exact ⟨tv, cv, us, cs, ls, Nat.le_trans h1 hm, h2⟩
/-- a round's beginning -/
def Rnd (a w : World) (d r b i : Nat) : Prop := PrN a w d r i ∧ BkN a w b i
theorem Rnd.below (h : Rnd a w d r b i) : Below a.heap.size a w := h.1.below
theorem Rnd.of {K : Dk} {D : RM} {ks : List Int} (h : PSt a w d r b i K D ks) : Rnd a w d r b i := ⟨⟨K, D, ks, h.1, h.2.1⟩, h.2.2⟩
/-- behind an act -/
def RAct (a w : World) (d r b i : Nat) : Prop := PrN a w d r (i + 1) ∧ BkN a w b i
theorem Rnd.act (h : Rnd a w d r b i) (hi : i ≤ 60) (o : OpV) (ho : ActOk a o) (hlen : o.L.length ≤ 10000) :
    Calls Tryz.prog 9 #[.pointer (some ⟨d, 0, none⟩), .pointer (some ⟨r, 0, none⟩), .agg o.cells] w fun e w' => e = .returned (.bool true) ∧ RAct a w' d r b i := by
  obtain ⟨⟨K, D, ks, h1, h2⟩, hB⟩ := h
  refine (PSt.act ⟨h1, h2, hB⟩ hi o ho hlen).mono ?_
  rintro e w' ⟨rfl, K1, D1, ks1, q1, q2, q3⟩
  exact ⟨rfl, ⟨K1, D1, ks1, q1, q2⟩, q3⟩
theorem PrN.same {n : Nat} (h : PrN a w d r n) (hn : n ≤ 9000) : Calls Tryz.prog 10 #[.pointer (some ⟨d, 0, none⟩), .pointer (some ⟨r, 0, none⟩)] w fun e w' => e = .returned (.bool true) ∧ Below w.heap.size w w' := by
  obtain ⟨K, D, ks, h1, h2⟩ := h
  exact same_any h1 (by omega)
theorem RAct.same (h : RAct a w d r b i) (hi : i ≤ 60) : Calls Tryz.prog 10 #[.pointer (some ⟨d, 0, none⟩), .pointer (some ⟨r, 0, none⟩)] w fun e w' => e = .returned (.bool true) ∧ RAct a w' d r b i :=
  (h.1.same (by omega)).mono fun e w' ⟨q1, q2⟩ => ⟨q1, h.1.over q2, h.2.over q2⟩
/-- with a list that was told -/
def RLst (a w : World) (d r b i : Nat) (nm : ByteArray) (v : Value) (L : List ByteArray) : Prop :=
  ∃ K D ks tv cv us cs ls, Pr a w d K r D ks ∧ K.turn ≤ i + 1 ∧ L = lstM D nm ∧ ls.length ≤ i ∧ PB.Bk a [PB.tRow v L] b tv cv us cs ls ls w
theorem RAct.list (h : RAct a w d r b i) (hi : i ≤ 60) (nm : ByteArray) : Calls Tryz.prog 11 #[.pointer (some ⟨d, 0, none⟩), .string nm] w fun e w' => ∃ v L, e = .returned v ∧ RLst a w' d r b i nm v L := by
  obtain ⟨⟨K, D, ks, h1, h2⟩, tv, cv, us, cs, ls, h3, h4⟩ := h
  refine (h1.list1 nm).mono ?_
  rintro e w' ⟨v, rfl, ho, hb⟩
  exact ⟨v, _, rfl, K, D, ks, tv, cv, us, cs, ls, h1.over hb, h2, rfl, h3, h4.with_ hb ho⟩
/-- kept -/
def RKept (a w : World) (d r b i : Nat) (nm : ByteArray) (v : Value) (L : List ByteArray) : Prop :=
  (∃ K D ks, Pr a w d K r D ks ∧ K.turn ≤ i + 1 ∧ L = lstM D nm) ∧ PB.TextsIn w v L ∧ BkN a w b (i + 1)
theorem RKept.over (h : RKept a w d r b i nm v L) (hb : Below w.heap.size w w') : RKept a w' d r b i nm v L := by
  obtain ⟨⟨K, D, ks, h1, h2, h3⟩, h4, h5⟩ := h
  exact ⟨⟨K, D, ks, h1.over hb, h2, h3⟩, h4.below hb, h5.over hb⟩
theorem RKept.texts (h : RKept a w d r b i nm v L) : PB.TextsIn w v L := h.2.1
theorem RKept.rnd (h : RKept a w d r b i nm v L) : Rnd a w d r b (i + 1) := by
  obtain ⟨⟨K, D, ks, h1, h2, h3⟩, h4, h5⟩ := h
  exact ⟨⟨K, D, ks, h1, h2⟩, h5⟩
theorem RLst.keep (h : RLst a w d r b i nm v L) (hi : i ≤ 60) : Calls Tryz.prog 12 #[.pointer (some ⟨b, 0, none⟩), v] w fun e w' => e = .returned (.tuple #[]) ∧ RKept a w' d r b i nm v L := by
  obtain ⟨K, D, ks, tv, cv, us, cs, ls, h1, h2, rfl, h3, h4⟩ := h
  have hsh := h1.lst_short (by omega) nm
  have hul := h4.ul
  have hsl : ∃ (a : Option Addr) (n c : Nat), v = .slice a n c := PB.owns_shape (h4.rows.own (PB.tRow v (lstM D nm)) (by simp))
  refine (PB.bookTexts_any a w [] b tv cv v us cs ls (lstM D nm) h4 (by omega) (by omega) (fun s hs => by have := hsh.2 s hs; omega) hsl).mono ?_
  rintro e w' ⟨rfl, hf, tv', cv', c, hB⟩
  have hP := h1.keepB h4 hf hB.below
  refine ⟨rfl, ⟨K, D, ks, hP, h2, rfl⟩, ?_, tv', cv', _, _, _, by simp; omega, hB⟩
  exact hB.u_ (i := us.length) (u := v) (l := lstM D nm) (by simp) (by rw [hul]; simp)
theorem RKept.list2 (h : RKept a w d r b i nm v L) (hi : i ≤ 60) : Calls Tryz.prog 14 #[.pointer (some ⟨r, 0, none⟩), .string nm] w fun e w' => ∃ v2, e = .returned v2 ∧ RKept a w' d r b i nm v L ∧ PB.TextsIn w' v2 L := by
  obtain ⟨K, D, ks, h1, h2, h3⟩ := h.1
  refine (h1.list2 (by omega) nm).mono ?_
  rintro e w' ⟨v2, rfl, ho, hb⟩
  refine ⟨v2, rfl, h.over hb, ?_⟩
  rw [h3]
  exact lst_texts ho (h1.lst_short (by omega) nm)
/-- both pairs, the book -/
def DuoN (a w : World) (d r t u b i : Nat) : Prop := (∃ K D T U ks, Duo a w d K r D t T u U ks ∧ K.turn ≤ i ∧ T.turn ≤ i) ∧ BkN a w b i
theorem DuoN.swap (h : DuoN a w d r t u b i) : DuoN a w t u d r b i := by
  obtain ⟨⟨K, D, T, U, ks, h1, h2, h3⟩, h4⟩ := h
  exact ⟨⟨T, U, K, D, ks, h1.swap, h3, h2⟩, h4⟩
theorem DuoN.below (h : DuoN a w d r t u b i) : Below a.heap.size a w := by
  obtain ⟨⟨K, D, T, U, ks, h1, h2, h3⟩, h4⟩ := h
  exact h1.p1.below
/-- behind the twin's act -/
def DuoE (a w : World) (d r t u b i : Nat) : Prop := PrN a w d r i ∧ PrN a w t u (i + 1) ∧ BkN a w b i
theorem DuoE.over (h : DuoE a w d r t u b i) (hb : Below w.heap.size w w') : DuoE a w' d r t u b i := ⟨h.1.over hb, h.2.1.over hb, h.2.2.over hb⟩
theorem DuoN.end_ (h : DuoN a w d r t u b i) : DuoE a w d r t u b i := by
  obtain ⟨⟨K, D, T, U, ks, h1, h2, h3⟩, h4⟩ := h
  exact ⟨⟨K, D, ks, h1.p1, h2⟩, ⟨T, U, ks, h1.p2, by omega⟩, h4⟩
theorem DuoN.act (h : DuoN a w d r t u b i) (hi : i ≤ 60) (o : OpV) (ho : ActOk a o) (hlen : o.L.length ≤ 10000) :
    Calls Tryz.prog 9 #[.pointer (some ⟨t, 0, none⟩), .pointer (some ⟨u, 0, none⟩), .agg o.cells] w fun e w' => e = .returned (.bool true) ∧ DuoE a w' d r t u b i := by
  obtain ⟨⟨K, D, T, U, ks, h1, h2, h3⟩, tv, cv, us, cs, ls, h4, h5⟩ := h
  refine (act_any h1.p2 (by omega) o ho hlen).mono ?_
  rintro e w' ⟨rfl, T1, U1, ks1, hs⟩
  exact ⟨rfl, ⟨K, D, ks, h1.p1.other h1.s1 hs.fr hs.pr.below, h2⟩, ⟨T1, U1, ks1, hs.pr, by have := hs.tn; omega⟩, tv, cv, us, cs, ls, h4, Bk_keep h5 h1.p2 hs.fr⟩
theorem DuoE.same2 (h : DuoE a w d r t u b i) (hi : i ≤ 60) : Calls Tryz.prog 10 #[.pointer (some ⟨t, 0, none⟩), .pointer (some ⟨u, 0, none⟩)] w fun e w' => e = .returned (.bool true) ∧ DuoE a w' d r t u b i :=
  (h.2.1.same (by omega)).mono fun e w' ⟨q1, q2⟩ => ⟨q1, h.over q2⟩
theorem DuoE.same1 (h : DuoE a w d r t u b i) (hi : i ≤ 60) : Calls Tryz.prog 10 #[.pointer (some ⟨d, 0, none⟩), .pointer (some ⟨r, 0, none⟩)] w fun e w' => e = .returned (.bool true) ∧ Rnd a w' d r b (i + 1) :=
  (h.1.same (by omega)).mono fun e w' ⟨q1, q2⟩ => ⟨q1, (h.1.over q2).le (Nat.le_succ _), (h.2.2.over q2).le (Nat.le_succ _)⟩
/-- behind the program's twin -/
def MidN (a w : World) (d r t b i : Nat) : Prop := ∃ w0 K D T ks, Pr a w0 d K r D ks ∧ K.turn ≤ i ∧ DiskAt w t T ∧ Eqv T D ks ∧ T.turn ≤ i ∧ (∀ k, T.foot t k → w0.heap.size ≤ k) ∧ Below w0.heap.size w0 w ∧ BkN a w b i
theorem Rnd.twin1 (h : Rnd a w d r b i) : Calls Tryz.prog 7 #[.pointer (some ⟨d, 0, none⟩)] w fun e w' => ∃ t, e = .returned (.pointer (some ⟨t, 0, none⟩)) ∧ MidN a w' d r t b i := by
  obtain ⟨⟨K, D, ks, h1, h2⟩, hB⟩ := h
  refine h1.twin1.mono ?_
  rintro e w' ⟨t, T, rfl, q1, q2, q3, q4, q5⟩
  exact ⟨t, rfl, w, K, D, T, ks, h1, h2, q1, q2, by omega, q4, q5, hB.over q5⟩
theorem MidN.twin2 (h : MidN a w d r t b i) : Calls Tryz.prog 8 #[.pointer (some ⟨r, 0, none⟩)] w fun e w' => ∃ u, e = .returned (.pointer (some ⟨u, 0, none⟩)) ∧ DuoN a w' d r t u b i := by
  obtain ⟨w0, K, D, T, ks, h1, h2, q1, q2, q3, q4, q5, hB⟩ := h
  refine (h1.twin2 q1 q2 q4 q5).mono ?_
  rintro e w' ⟨u, U, rfl, hd, hf⟩
  exact ⟨u, rfl, ⟨K, D, T, U, ks, hd, h2, q3⟩, hB.over hf.below⟩
/-- the end -/
theorem Rnd.apart (h : Rnd a w d r b i) : Calls Tryz.prog 15 #[.pointer (some ⟨b, 0, none⟩)] w fun e w' => e = .returned (.bool true) ∧ Below a.heap.size a w' := by
  obtain ⟨_, tv, cv, us, cs, ls, h3, h4⟩ := h
  exact PB.apart_any a w b tv cv us cs ls h4
end

end Go.Proofs.YtaabepiddbnggaaGreat.P4

/-
  The statements' Light: when it says yes, the acts are few and short. (Disk, part 45.)
-/
namespace Go.Proofs.YtaabepiddbnggaaGreat.P4
open Go Go.RowKit Go.Lib Go.Maps Go.ChangeMaps Go.MapKept Go.Proofs.YtaabepiddbnggaaGreat.P3

/-- how much room is left -/
def roomOf : Int → List Int → Int
  | r, [] => r
  | r, x :: l => if r < 0 ∨ r < x then -1 else roomOf (r - x) l
theorem roomOf_neg {r : Int} (h : r < 0) (l : List Int) : roomOf r l < 0 := by
  cases l with
  | nil => exact h
  | cons x l => rw [roomOf, if_pos (.inl h)]; decide
theorem roomOf_drop {r : Int} {l : List Int} {k : Nat} (h : k < l.length) : roomOf r (l.drop k) = if r < 0 ∨ r < l[k] then -1 else roomOf (r - l[k]) (l.drop (k + 1)) := by
  rw [List.drop_eq_getElem_cons h]; rfl

theorem room_any (w : World) (r : Int) (v : Value) (l : List Int) (h : P3.IntsIn w v l) (hr : r ≤ 9223372036854775807) (hp : ∀ i (h : i < l.length), 0 ≤ l[i]) :
    Calls Tryz.prog 16 #[.int .i64 r, v] w fun e w' => e = .returned (.int .i64 (roomOf r l)) ∧ w = w' := by
  obtain ⟨a, c, rfl, hl, hc⟩ := h
  go_enter Tryz.func16, Tryz.ntmps16
  go_wp2
  go_loop [0, 5] (fun q i => ∃ (k : Nat) (x : Int), k ≤ l.length ∧ i = .int .i64 k ∧ q = .int .i64 x ∧ x ≤ 9223372036854775807 ∧ Hid (roomOf r l = roomOf x (l.drop k))) (fun _ i => l.length - (RowKit.intOf i).toNat)
  case atStart => exact ⟨0, r, Nat.zero_le _, rfl, rfl, hr, rfl⟩
  case round =>
    obtain ⟨k, x, hk, rfl, rfl, hx, hxe⟩ := hrel
    by_cases hlt : k < l.length
    · obtain ⟨b, off, rfl, hb, hcc⟩ := hc (by omega)
      have hcell := hcc k hlt
      rw [show l.getD k 0 = l[k] by rw [List.getD_eq_getElem?_getD, List.getElem?_eq_getElem hlt]; rfl] at hcell
      have hpos := hp k hlt
      have hD := hxe.out.trans (roomOf_drop hlt)
      generalize l[k] = y at hcell hD hpos
      clear hcc hc hp hxe
      by_cases h0 : x < 0
      · have hR : Hid (roomOf r l = -1) := hD.trans (if_pos (.inl h0))
        have k0 : decide (x < 0) = true := decide_eq_true h0
        clear hD
        go_wp2
        go_ret
        exact ⟨by rw [hR.out]; rfl, rfl⟩
      · have k0 : decide (x < 0) = false := decide_eq_false h0
        by_cases h1 : x < y
        · have hR : Hid (roomOf r l = -1) := hD.trans (if_pos (.inr h1))
          have k1 : decide (x < y) = true := decide_eq_true h1
          clear hD
          go_wp2
          go_ret
          exact ⟨by rw [hR.out]; rfl, rfl⟩
        · have hR : Hid (roomOf r l = roomOf (x - y) (l.drop (k + 1))) := hD.trans (if_neg (by omega))
          have k1 : decide (x < y) = false := decide_eq_false h1
          clear hD
          go_wp2
          go_round
          case rel => exact ⟨k + 1, x - y, by omega, by go_num, by go_num, by omega, hR⟩
          case measure => simp [RowKit.intOf]; omega
    · have hR : Hid (roomOf r l = x) := by
        show _ = _
        rw [hxe.out, List.drop_eq_nil_of_le (by omega)]; rfl
      go_wp2
      go_ret
      exact ⟨by rw [hR.out]; rfl, rfl⟩


theorem room3 (w W : World) (r x y z : Int) (hW : Below (w.alloc (.cells #[.int .i64 x, .int .i64 y, .int .i64 z] 3)).heap.size (w.alloc (.cells #[.int .i64 x, .int .i64 y, .int .i64 z] 3)) W) (hr : r ≤ 9223372036854775807) (hx : 0 ≤ x) (hy : 0 ≤ y) (hz : 0 ≤ z) :
    Calls Tryz.prog 16 #[.int .i64 r, .slice (some ⟨w.heap.size, 0, none⟩) 3 3] W fun e w' =>
      (∃ q, e = .returned (.int .i64 q) ∧ (r ≤ 6000 → q ≤ 6000) ∧ (0 ≤ q → 0 ≤ r ∧ x ≤ r ∧ y ≤ r ∧ z ≤ r)) ∧ W = w' := by
  have hI : P3.IntsIn (w.alloc (.cells #[.int .i64 x, .int .i64 y, .int .i64 z] 3)) (.slice (some ⟨w.heap.size, 0, none⟩) 3 3) [x, y, z] := by
    refine ⟨_, 3, rfl, by simp, fun _ => ⟨w.heap.size, 0, rfl, by simp, fun i hi => ?_⟩⟩
    rw [Nat.zero_add, cell_at (new_at w _ _)]
    match i, hi with
    | 0, _ => rfl
    | 1, _ => rfl
    | 2, _ => rfl
  refine (room_any W r _ [x, y, z] (hI.below hW) hr (fun i hi => ?_)).mono ?_
  · match i, hi with
    | 0, _ => exact hx
    | 1, _ => exact hy
    | 2, _ => exact hz
  · rintro e w' ⟨rfl, rfl⟩
    refine ⟨⟨_, rfl, ?_, ?_⟩, rfl⟩ <;> simp only [roomOf] <;> split <;> (try split) <;> (try split) <;> omega

/-- what Light says yes to -/
def LightOk (l : List OpV) : Prop := l.length ≤ 60 ∧ ∀ o ∈ l, o.S.size ≤ 6000 ∧ o.T.size ≤ 6000 ∧ o.L.length ≤ 6000
def LightPost (w : World) (l : List OpV) (e : Ending) (w' : World) : Prop := (∃ b, e = .returned (.bool b) ∧ (b = true → LightOk l)) ∧ Below w.heap.size w w'
set_option maxRecDepth 100000 in
set_option maxHeartbeats 2000000 in
theorem light_any (w : World) (v : Value) (l : List OpV) (h : ActsIn w v l) :
    Calls Tryz.prog 4 #[v] w (LightPost w l) := by
  obtain ⟨a, c, rfl, hl, hc⟩ := h
  have HR := Lib.hid room3
  have HC := Lib.hid hc
  clear hc
  go_enter Tryz.func4, Tryz.ntmps4
  go_wp2
  go_loopw [3, 4] (fun vr vi wr => ∃ (k : Nat) (x : Int), k ≤ l.length ∧ vi = .int .i64 k ∧ vr = .int .i64 x ∧ x ≤ 6000 ∧ Hid (0 ≤ x → ∀ j (o : OpV), j < k → l[j]? = some o → o.S.size ≤ 6000 ∧ o.T.size ≤ 6000 ∧ o.L.length ≤ 6000) ∧ Hid (Below w.heap.size w wr)) (fun _ vi _ => l.length - (RowKit.intOf vi).toNat)
  case atStart => exact ⟨0, 6000, Nat.zero_le _, rfl, rfl, by decide, (fun _ j o hj => absurd hj (Nat.not_lt_zero _)), Below.refl _ _⟩
  case round =>
    obtain ⟨k, x, hk, rfl, rfl, hx, hS, hB⟩ := hrel
    have hend : Hid (¬ k < l.length → 0 ≤ x → l.length ≤ 60 → LightOk l) := fun h1 h2 h3 => ⟨h3, fun o ho => by
      obtain ⟨j, hj⟩ := List.getElem?_of_mem ho
      have hjl := (List.getElem?_eq_some_iff.1 hj).1
      exact hS.out h2 j o (by omega) hj⟩
    by_cases h1 : k < l.length
    · have i1 : decide ((k : Int) < (l.length : Int)) = true := decide_eq_true (by omega)
      have i1' : decide (k < l.length) = true := decide_eq_true h1
      by_cases h2 : k < 200
      · have i2 : decide ((k : Int) < 200) = true := decide_eq_true (by omega)
        have i2' : decide (k < 200) = true := decide_eq_true h2
        by_cases h3 : 0 ≤ x
        · have i3 : decide (0 ≤ x) = true := decide_eq_true h3
          obtain ⟨b, off, rfl, hbl, hcc⟩ := HC.out (by omega)
          obtain ⟨o, ho⟩ : ∃ o, l[k]? = some o := ⟨_, List.getElem?_eq_getElem h1⟩
          obtain ⟨hcells, hok⟩ := hcc k o ho
          have HXc : Hid (∀ W, Below w.heap.size w W → W.cell? ⟨b, off + k * 7 + 1, none⟩ = some (.string o.S) ∧ W.cell? ⟨b, off + k * 7 + 2, none⟩ = some (.string o.T) ∧ W.cell? ⟨b, off + k * 7 + 6, none⟩ = some (.slice o.a o.L.length o.c)) := fun W hW =>
            ⟨by rw [hW.cell (p := ⟨b, off + k * 7 + 1, none⟩) hbl]; exact hcells 1 _ rfl, by rw [hW.cell (p := ⟨b, off + k * 7 + 2, none⟩) hbl]; exact hcells 2 _ rfl, by rw [hW.cell (p := ⟨b, off + k * 7 + 6, none⟩) hbl]; exact hcells 6 _ rfl⟩
          have HR2 : Hid (∀ W, Below (wr.alloc (.cells #[.int .i64 (o.S.size : Nat), .int .i64 (o.T.size : Nat), .int .i64 (o.L.length : Nat)] 3)).heap.size (wr.alloc (.cells #[.int .i64 (o.S.size : Nat), .int .i64 (o.T.size : Nat), .int .i64 (o.L.length : Nat)] 3)) W → Calls Tryz.prog 16 #[.int .i64 x, .slice (some ⟨wr.heap.size, 0, none⟩) 3 3] W fun e w' =>
              (∃ q, e = .returned (.int .i64 q) ∧ (x ≤ 6000 → q ≤ 6000) ∧ (0 ≤ q → 0 ≤ x ∧ (o.S.size : Int) ≤ x ∧ (o.T.size : Int) ≤ x ∧ (o.L.length : Int) ≤ x)) ∧ W = w') := fun W hW => HR.out wr W x (o.S.size : Nat) (o.T.size : Nat) (o.L.length : Nat) hW (by omega) (by omega) (by omega) (by omega)
          have HS2 : Hid (∀ q : Int, (0 ≤ q → 0 ≤ x ∧ (o.S.size : Int) ≤ x ∧ (o.T.size : Int) ≤ x ∧ (o.L.length : Int) ≤ x) → (0 ≤ q → ∀ j (p : OpV), j < k + 1 → l[j]? = some p → p.S.size ≤ 6000 ∧ p.T.size ≤ 6000 ∧ p.L.length ≤ 6000)) := fun q hq h0 j p hj hp => by
            by_cases e : j = k
            · subst e
              rw [ho] at hp
              obtain rfl : o = p := by simpa using hp
              have := hq h0
              omega
            · exact hS.out h3 j p (by omega) hp
          have b0 : (0 : Int) ≤ (k : Int) := by omega
          have b1 : (k : Int) < (l.length : Int) := by omega
          obtain ⟨s, hs⟩ : ∃ s, s = o.S := ⟨_, rfl⟩
          obtain ⟨t, ht⟩ : ∃ t, t = o.T := ⟨_, rfl⟩
          obtain ⟨n, hn⟩ : ∃ n, n = o.L.length := ⟨_, rfl⟩
          rw [← hs, ← ht, ← hn] at HR2 HS2 HXc
          have HG := Lib.hid (fun (z1 z2 z3 : Int) => grow hB.out (.cells #[.int .i64 z1, .int .i64 z2, .int .i64 z3] 3))
          have HGd := Lib.hid (fun (z1 z2 z3 : Int) => grow (thenBelow hB.out (Below.refl _ _).drew) (.cells #[.int .i64 z1, .int .i64 z2, .int .i64 z3] 3))
          clear hcells hok hcc ho hend hs ht hn HR HC hS
          go_wp2
          go_region_held3 (fun W => W.cell? ⟨b, off + k * 7 + 1, none⟩ = some (.string s) ∧ W.cell? ⟨b, off + k * 7 + 2, none⟩ = some (.string t) ∧ W.cell? ⟨b, off + k * 7 + 6, none⟩ = some (.slice o.a n o.c)) (first | exact HXc.out _ (thenBelow hB.out (Below.refl _ _).drew) | exact HXc.out _ hB.out | exact HXc.out _ (HG.out _ _ _) | exact HXc.out _ (HGd.out _ _ _) | exact HXc.out _ (thenBelow (HG.out _ _ _) (Below.refl _ _).drew)) ((first | (go_at_call 16; (with_reducible refine (HR2.out _ (by first | exact (Below.refl _ _).drew | exact Below.refl _ _)).mono ?_); rintro e w2 ⟨⟨q, rfl, hq1, hq2⟩, rfl⟩; have HQ1 := Lib.hid hq1; have HQ2 := Lib.hid hq2; clear hq1 hq2)))
          all_goals
            go_wp2
            go_roundw
            case rel => exact ⟨k + 1, q, by omega, by go_num, rfl, HQ1.out (by omega), HS2.out q HQ2.out, by first | exact HG.out _ _ _ | exact HGd.out _ _ _ | exact thenBelow (HG.out _ _ _) (Below.refl _ _).drew⟩
            case measure => simp [RowKit.intOf]; omega
        · have i3 : decide (0 ≤ x) = false := decide_eq_false h3
          by_cases h4 : l.length ≤ 60
          · have i4 : decide ((l.length : Int) ≤ 60) = true := decide_eq_true (by omega)
            have i4' : decide (l.length ≤ 60) = true := decide_eq_true h4
            go_wp2
            go_ret
            exact ⟨⟨false, rfl, fun h => by cases h⟩, hB.out⟩
          · have i4 : decide ((l.length : Int) ≤ 60) = false := decide_eq_false (by omega)
            have i4' : decide (l.length ≤ 60) = false := decide_eq_false h4
            go_wp2
            go_ret
            exact ⟨⟨false, rfl, fun h => by cases h⟩, hB.out⟩
      · have i2 : decide ((k : Int) < 200) = false := decide_eq_false (by omega)
        have i2' : decide (k < 200) = false := decide_eq_false h2
        have i4 : decide ((l.length : Int) ≤ 60) = false := decide_eq_false (by omega)
        have i4' : decide (l.length ≤ 60) = false := decide_eq_false (by omega)
        go_wp2
        go_ret
        exact ⟨⟨false, rfl, fun h => by cases h⟩, hB.out⟩
    · have i1 : decide ((k : Int) < (l.length : Int)) = false := decide_eq_false (by omega)
      have i1' : decide (k < l.length) = false := decide_eq_false h1
      by_cases h4 : l.length ≤ 60
      · have i4 : decide ((l.length : Int) ≤ 60) = true := decide_eq_true (by omega)
        have i4' : decide (l.length ≤ 60) = true := decide_eq_true h4
        by_cases h3 : 0 ≤ x
        · have i3 : decide (0 ≤ x) = true := decide_eq_true h3
          have hOk := Lib.hid (hend.out h1 h3 h4)
          go_wp2
          go_ret
          exact ⟨⟨_, rfl, fun _ => hOk.out⟩, hB.out⟩
        · have i3 : decide (0 ≤ x) = false := decide_eq_false h3
          go_wp2
          go_ret
          exact ⟨⟨false, rfl, fun h => by cases h⟩, hB.out⟩
      · have i4 : decide ((l.length : Int) ≤ 60) = false := decide_eq_false (by omega)
        have i4' : decide (l.length ≤ 60) = false := decide_eq_false h4
        go_wp2
        go_ret
        exact ⟨⟨false, rfl, fun h => by cases h⟩, hB.out⟩

end Go.Proofs.YtaabepiddbnggaaGreat.P4
