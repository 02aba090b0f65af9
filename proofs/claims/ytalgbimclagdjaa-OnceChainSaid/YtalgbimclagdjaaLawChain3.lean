/-
  P301: cells that stand on one another: the walk of the statement OnceChain.
-/
import Derived.Test.YtalgbimclagdjaaArgs3
import Derived.Deep.LoopGhost
import Derived.Deep.RegionHeld3
import Derived.Deep.OwnRows
namespace Go.Proofs.Ytalgbimclagdjaa.P3
open Go Go.RowKit Go.Lib Go.Maps Go.ChangeMaps Go.MapKept

/-- what the cell j places ahead of the last tells -/
def val (l : List Int) : Nat → Int
  | 0 => 5
  | j + 1 => bits .xor .i64 (val l j) (l.getD (l.length - 1 - j) 0)

/-- block X is the row of L + 1 cells: those from i on are made -/
structure Row (l : List Int) (X i : Nat) (c : Array Value) (wr : World) : Prop where
  blk : wr.heap[X]? = some (.cells c 44 (0, 0))
  size : c.size = (l.length + 1) * 5
  made : ∀ k, i ≤ k → k ≤ l.length → Made c (k * 5) (.int .i64 (val l (l.length - k)))
  fresh : ∀ k, k < i → k ≤ l.length → Fresh c (k * 5)

theorem made_row (l : List Int) (w : World) : Row l w.heap.size (l.length + 1) (madeCells zCell ((l.length + 1) * 5)) (w.alloc (.cells (madeCells zCell ((l.length + 1) * 5)) 44)) := by
  have h : ∀ n j : Nat, j < n → (madeCells zCell n)[j]? = some (zCell[j % 5]!) := by
    intro n j hj
    simp [madeCells, hj]
  refine ⟨heap_alloc_new w _, size_madeCells _ _, fun k h1 h2 => by omega, fun k hk hk2 => ?_⟩
  refine ⟨?_, ?_, ?_, ?_⟩
  · rw [h _ _ (by omega), show k * 5 % 5 = 0 by omega]; rfl
  · rw [h _ _ (by omega), show (k * 5 + 1) % 5 = 1 by omega]; rfl
  · rw [h _ _ (by omega), show (k * 5 + 3) % 5 = 3 by omega]; rfl
  · rw [size_madeCells]; omega

theorem Row.done {l : List Int} {X i : Nat} {c : Array Value} {wr w' : World} (h : Row l X (i + 1) c wr) (hi : i ≤ l.length) (hb : w'.heap[X]? = some (.cells (doneAt c (i * 5) (.int .i64 (val l (l.length - i)))) 44 (0, 0))) :
    Row l X i (doneAt c (i * 5) (.int .i64 (val l (l.length - i)))) w' := by
  refine ⟨hb, by rw [done_size]; exact h.size, fun k h1 h2 => ?_, fun k h1 h2 => ?_⟩
  · by_cases e : k = i
    · subst e
      exact done_made _ _ _ (by rw [h.size]; omega)
    · obtain ⟨a1, a2, a3⟩ := h.made k (by omega) h2
      refine ⟨?_, ?_, ?_⟩ <;> rw [done_other _ _ _ _ (by omega)] <;> assumption
  · obtain ⟨a1, a2, a3, a4⟩ := h.fresh k (by omega) h2
    refine ⟨?_, ?_, ?_, ?_⟩
    · rw [done_other _ _ _ _ (by omega)]; exact a1
    · rw [done_other _ _ _ _ (by omega)]; exact a2
    · rw [done_other _ _ _ _ (by omega)]; exact a3
    · rw [done_size]; exact a4

theorem Row.below {l : List Int} {X i : Nat} {c : Array Value} {wr w' : World} (h : Row l X i c wr) (hb : Below wr.heap.size wr w') : Row l X i c w' :=
  { h with blk := old_below h.blk hb }

theorem chain1 (w : World) : Calls Try.prog 28 #[] w fun e w' => e = .returned (.int .i64 5) ∧ w = w' := by
  go_enter Try.func28, Try.ntmps28
  go_wp2
  go_ret
  exact ⟨rfl, rfl⟩
theorem en_chain1 : ∀ args w, (callFunc 28 args).run Try.prog w = .ok (.enter 28 args) w := fun args w => enters Try.func28 (by kernel_rfl) rfl args w
theorem en_chain2 : ∀ args w, (callFunc 29 args).run Try.prog w = .ok (.enter 29 args) w := fun args w => enters Try.func29 (by kernel_rfl) rfl args w

/-- block b is a variable that holds the slice v -/
def SliceAt (w : World) (b : Nat) (v : Value) (t : TypeId) : Prop := w.heap[b]? = some (.cells #[v] t (0, 0))
theorem SliceAt.cell {w : World} {b : Nat} {v : Value} {t : TypeId} (h : SliceAt w b v t) : w.cell? ⟨b, 0, none⟩ = some v := by rw [cell_at h]; rfl

set_option maxRecDepth 100000 in
set_option maxHeartbeats 1600000 in
/-- the function that the cell i is handed -/
theorem chain2 (w : World) (bc bi bl X i L M b off cap : Nat) (p q : Int) (hc : SliceAt w bc (.slice (some ⟨X, 0, none⟩) M M) 74) (hi : IntAt w bi i) (hl : SliceAt w bl (.slice (some ⟨b, off, none⟩) L cap) 73) (hiL : i < L) (hM : M = L + 1) (hL : L ≤ 30)
    (hq : w.cell? ⟨b, off + i, none⟩ = some (.int .i64 q)) (hla : b < w.heap.size)
    (hG : ∀ w1 : World, Below w.heap.size w w1 → Calls Try.prog 13 #[.pointer (some ⟨X, (i + 1) * 5, none⟩), .nilFunc] w1 fun e w' => e = .returned (.int .i64 p) ∧ Below w1.heap.size w1 w') :
    Calls Try.prog 29 #[.pointer (some ⟨bc, 0, none⟩), .pointer (some ⟨bi, 0, none⟩), .pointer (some ⟨bl, 0, none⟩)] w fun e w' => e = .returned (.int .i64 (bits .xor .i64 p q)) ∧ Below w.heap.size w w' := by
  have c1 := hc.cell
  have c2 := hi.cell
  have c3 := hl.cell
  have b1 : (i : Int) < (L : Int) := by omega
  have b2 : (L : Int) ≤ 30 := by omega
  have b3 : (0 : Int) ≤ (i : Int) := by omega
  have b4 : (i : Int) + 1 < (M : Int) := by omega
  have b5 : (0 : Int) ≤ (i : Int) + 1 := by omega
  have b6 : IntKind.i64.wrap ((i : Int) + 1) = (i : Int) + 1 := by rw [IntKind.wrap_i64]; omega
  have hpost : ∀ w' : World, Below w.heap.size w.drew w' → w'.cell? ⟨bc, 0, none⟩ = some (.slice (some ⟨X, 0, none⟩) M M) ∧ w'.cell? ⟨bi, 0, none⟩ = some (.int .i64 i) ∧ w'.cell? ⟨bl, 0, none⟩ = some (.slice (some ⟨b, off, none⟩) L cap) ∧ w'.cell? ⟨b, off + i, none⟩ = some (.int .i64 q) := by
    intro w' hb
    exact ⟨by rw [hb.cell (p := ⟨bc, 0, none⟩) (lt_of_block hc)]; exact c1, by rw [hb.cell (p := ⟨bi, 0, none⟩) hi.lt]; exact c2, by rw [hb.cell (p := ⟨bl, 0, none⟩) (lt_of_block hl)]; exact c3, by rw [hb.cell (p := ⟨b, off + i, none⟩) hla]; exact hq⟩
  have HP := Lib.hid hpost
  have HG := Lib.hid (hG w.drew (Below.refl _ w).drew)
  clear hc hi hl hG hpost hM
  go_enter Try.func29, Try.ntmps29
  go_wp2
  go_region_held3 (fun w' => w'.cell? ⟨bc, 0, none⟩ = some (.slice (some ⟨X, 0, none⟩) M M) ∧ w'.cell? ⟨bi, 0, none⟩ = some (.int .i64 i) ∧ w'.cell? ⟨bl, 0, none⟩ = some (.slice (some ⟨b, off, none⟩) L cap) ∧ w'.cell? ⟨b, off + i, none⟩ = some (.int .i64 q)) (first | exact ⟨q1, q2, q3, q4⟩ | exact ⟨c1, c2, c3, hq⟩)
    ((first | (go_at_call 13; (with_reducible refine HG.out.mono ?_); rintro e w3 ⟨rfl, hg⟩; obtain ⟨q1, q2, q3, q4⟩ := HP.out w3 hg)))
  go_wp2
  go_ret
  exact ⟨rfl, thenBelow (Below.refl _ w).drew hg⟩

theorem chain3 (w : World) (X : Nat) (l : List Int) (c : Array Value) (h : Row l X 0 c w) (g : Nat) (caps : Array Value) :
    Calls Try.prog 13 #[.pointer (some ⟨X, 0, none⟩), .func (.func g) #[] caps] w fun e w' => e = .returned (.int .i64 (val l l.length)) ∧ Below w.heap.size w w' := by
  have := h.made 0 (Nat.le_refl _) (Nat.zero_le _)
  rw [Nat.zero_mul] at this
  exact getI_made w X 0 c 44 _ _ (.inr ⟨g, caps, rfl⟩) h.blk this

/-- where the variables stand: X the row's block; the cells from k on are made -/
structure CSt (w : World) (X k : Nat) (v : Value) (l : List Int) (wr : World) : Prop where
  row : ∃ c, Row l X k c wr
  vc : SliceAt wr (X + 1) (.slice (some ⟨X, 0, none⟩) (l.length + 1) (l.length + 1)) 74
  vl : SliceAt wr w.heap.size v 73
  bel : Below w.heap.size w wr
  lo : w.heap.size < X
theorem CSt.below {w : World} {X k : Nat} {v : Value} {l : List Int} {wr w' : World} (h : CSt w X k v l wr) (hb : Below wr.heap.size wr w') : CSt w X k v l w' := by
  obtain ⟨c, hr⟩ := h.row
  exact { row := ⟨c, hr.below hb⟩, vc := old_below h.vc hb, vl := old_below h.vl hb, bel := thenBelow h.bel hb, lo := h.lo }

theorem chain_start (w w1 : World) (v : Value) (l : List Int) (hb1 : Below (w.alloc (.cells #[v] 73)).heap.size (w.alloc (.cells #[v] 73)) w1) :
    Calls Try.prog 13 #[.pointer (some ⟨w1.heap.size, l.length * 5, none⟩), .func (.func 28) #[] #[]] ((w1.alloc (.cells (madeCells zCell ((l.length + 1) * 5)) 44)).alloc (.cells #[.slice (some ⟨w1.heap.size, 0, none⟩) (l.length + 1) (l.length + 1)] 74))
      fun e w' => e = .returned (.int .i64 5) ∧ CSt w w1.heap.size l.length v l w' := by
  have e0 := heap_alloc_new w (.cells #[v] 73)
  have e1 := old_below e0 hb1
  have r2 := (made_row l w1).below (below_new _ (.cells #[.slice (some ⟨w1.heap.size, 0, none⟩) (l.length + 1) (l.length + 1)] 74))
  have e3 := heap_alloc_new (w1.alloc (.cells (madeCells zCell ((l.length + 1) * 5)) 44)) (.cells #[.slice (some ⟨w1.heap.size, 0, none⟩) (l.length + 1) (l.length + 1)] 74)
  have hs : ∀ (u : World) (o : Obj), (u.alloc o).heap.size = u.heap.size + 1 := by intro u o; simp
  simp only [hs] at e3
  have hlt := lt_of_block e1
  have e2 := old_alloc (old_alloc e1 (.cells (madeCells zCell ((l.length + 1) * 5)) 44)) (.cells #[.slice (some ⟨w1.heap.size, 0, none⟩) (l.length + 1) (l.length + 1)] 74)
  have hb := grow (grow (thenBelow (below_new w (.cells #[v] 73)) hb1) (.cells (madeCells zCell ((l.length + 1) * 5)) 44)) (.cells #[.slice (some ⟨w1.heap.size, 0, none⟩) (l.length + 1) (l.length + 1)] 74)
  generalize (w1.alloc (.cells (madeCells zCell ((l.length + 1) * 5)) 44)).alloc (.cells #[.slice (some ⟨w1.heap.size, 0, none⟩) (l.length + 1) (l.length + 1)] 74) = W at *
  have G := getI_first W w1.heap.size (l.length * 5) _ 44 28 en_chain1 #[] 5 (fun _ => False) (fun _ => True) r2.blk (r2.fresh l.length (by omega) (Nat.le_refl _)) (fun _ h => h.elim) id
    (fun w1 _ _ => (chain1 w1).mono fun _ _ ⟨he, hw⟩ => ⟨he, trivial, hw ▸ Fr.refl _ _⟩)
  refine G.mono ?_
  rintro e w' ⟨he, w2, _, _, hb', hfr⟩
  have v0 : val l (l.length - l.length) = 5 := by rw [Nat.sub_self]; rfl
  exact ⟨he, { row := ⟨_, r2.done (i := l.length) (Nat.le_refl _) (by rw [v0]; exact hb')⟩, vc := hfr.keep e3 (fun e => e.elim (fun e => by omega) id), vl := hfr.keep e2 (fun e => e.elim (fun e => by omega) id), bel := hfr.new hb (fun i hi => hi.elim (fun e => by omega) (fun e => e.elim)), lo := hlt }⟩

theorem val_step (l : List Int) (k : Nat) (hk : k < l.length) : val l (l.length - k) = bits .xor .i64 (val l (l.length - (k + 1))) (l.getD k 0) := by
  have e : l.length - k = (l.length - (k + 1)) + 1 := by omega
  rw [e]
  show bits .xor .i64 (val l (l.length - (k + 1))) (l.getD (l.length - 1 - (l.length - (k + 1))) 0) = _
  rw [show l.length - 1 - (l.length - (k + 1)) = k by omega]

theorem chain_round (w : World) (X bi k : Nat) (v : Value) (l : List Int) (wr : World) (hs : IntsIn w v l) (hk : k < l.length) (hL : l.length ≤ 30) (h : CSt w X (k + 1) v l wr) (hiv : IntAt wr bi k) (hbi : X + 1 < bi) :
    Calls Try.prog 13 #[.pointer (some ⟨X, k * 5, none⟩), .func (.func 29) #[] #[.pointer (some ⟨X + 1, 0, none⟩), .pointer (some ⟨bi, 0, none⟩), .pointer (some ⟨w.heap.size, 0, none⟩)]] wr
      fun e w' => e = .returned (.int .i64 (val l (l.length - k))) ∧ CSt w X k v l w' ∧ IntAt w' bi k := by
  have lo := h.lo
  obtain ⟨c, hr⟩ := h.row
  obtain ⟨a, cap, hv, hll, h2⟩ := hs
  obtain ⟨b, off, rfl, hb, he⟩ := h2 (by omega)
  have ek := he k hk
  rw [← h.bel.cell (p := ⟨b, off + k, none⟩) hb] at ek
  have hbl : b < wr.heap.size := Nat.lt_of_lt_of_le hb h.bel.size
  have hm := hr.made (k + 1) (Nat.le_refl _) (by omega)
  have G := getI_first wr X (k * 5) c 44 29 en_chain2 #[.pointer (some ⟨X + 1, 0, none⟩), .pointer (some ⟨bi, 0, none⟩), .pointer (some ⟨w.heap.size, 0, none⟩)] (val l (l.length - k)) (fun _ => False) (fun _ => True) hr.blk (hr.fresh k (by omega) (by omega)) (fun _ h => h.elim) id
    (fun wa ho hbb => (chain2 wa (X + 1) bi w.heap.size X k l.length (l.length + 1) b off cap (val l (l.length - (k + 1))) (l.getD k 0) (ho.keep h.vc (by omega)) (hiv.only ho (by omega)) (ho.keep (by rw [← hv]; exact h.vl) (by omega)) hk rfl hL
      (by rw [World.cell?_of_block (ho.block b hbl (by omega))]; exact ek) (Nat.lt_of_lt_of_le hbl ho.size)
      (fun wb hbel => getI_made wb X ((k + 1) * 5) _ 44 _ _ (.inl rfl) (old_below hbb hbel) (by
        obtain ⟨m1, m2, m3⟩ := hm
        refine ⟨?_, ?_, ?_⟩ <;> rw [Array.getElem?_setIfInBounds, if_neg (by omega)] <;> assumption))).mono fun e w2 ⟨he, hb2⟩ => ⟨by rw [he, val_step l k hk], trivial, .of hb2⟩)
  refine G.mono ?_
  rintro e w' ⟨he, w2, _, _, hb', hfr⟩
  exact ⟨he, { row := ⟨_, hr.done (by omega) hb'⟩, vc := hfr.keep h.vc (fun e => e.elim (fun e => by omega) id), vl := hfr.keep h.vl (fun e => e.elim (fun e => by omega) id), bel := hfr.new h.bel (fun i hi => hi.elim (fun e => by omega) (fun e => e.elim)), lo := lo }, hiv.fr hfr (fun e => e.elim (fun e => by omega) id)⟩

theorem chain_skip (w : World) (v : Value) (l : List Int) (hs : IntsIn w v l) (h : 30 < l.length) :
    Calls Try.prog 7 #[v] w fun r w' => r = .returned (.bool true) ∧ Below w.heap.size w w' := by
  have K := fun w' => Lib.hid (alive_any w')
  obtain ⟨a, c, rfl, hl, _⟩ := hs
  obtain ⟨L, hL⟩ : ∃ L, L = l.length := ⟨_, rfl⟩
  rw [← hL] at h ⊢
  have k1 : decide ((30 : Int) < (L : Int)) = true := decide_eq_true (by omega)
  clear hL hl h
  go_enter Try.func7, Try.ntmps7
  go_wp2_with (go_at_call 9; refine (K _).out.mono ?_; rintro e w1 ⟨rfl, hb⟩)
  go_ret
  exact ⟨rfl, thenBelow (below_new _ _) hb⟩

theorem cell_info : (Try.prog.info? 44).map (fun i => (i.zero.map Value.cells, i.size, i.bytes)) = some (some zCell, 5, 24) := by kernel_rfl
theorem make_row (n : Nat) (h : n ≤ 31) (w : World) :
    (Instr.makeSlice 74 (.int .i64 (n : Int)) (.int .i64 (n : Int))).run Try.prog w = .ok (.slice (some ⟨w.heap.size, 0, none⟩) n n) (w.alloc (.cells (madeCells zCell (n * 5)) 44)) := by
  obtain ⟨i, hi, hzz⟩ := Option.map_eq_some_iff.1 cell_info
  simp only [Prod.mk.injEq, Option.map_eq_some_iff] at hzz
  obtain ⟨⟨z, hz, hzc⟩, hs, hb⟩ := hzz
  have hr := run_make (P := Try.prog) w 74 44 i z Try.underlying74 hi hz .i64 .i64 n n (by omega) (Int.le_refl _) (by rw [hb]; omega) (by omega)
  simp only [Int.toNat_natCast, hs, hzc] at hr
  exact hr

set_option maxRecDepth 100000 in
set_option maxHeartbeats 1600000 in
theorem chain_in (w : World) (v : Value) (l : List Int) (hs : IntsIn w v l) (h : l.length ≤ 30) :
    Calls Try.prog 7 #[v] w fun r w' => r = .returned (.bool true) ∧ Below w.heap.size w w' := by
  have K := fun w' => Lib.hid (alive_any w')
  have HSt := Lib.hid hs
  obtain ⟨a, c, hv, hl, h2⟩ := hs
  obtain ⟨L, hL⟩ : ∃ L, L = l.length := ⟨_, rfl⟩
  obtain ⟨M, hM⟩ : ∃ M, M = L + 1 := ⟨_, rfl⟩
  rw [← hL] at h hv
  subst hv
  have HL := Lib.hid hL
  have H2 := Lib.hid h2
  have k1 : decide ((30 : Int) < (L : Int)) = false := decide_eq_false (by omega)
  have b1 : (L : Int) ≤ 30 := by omega
  have b0 : (0 : Int) ≤ (L : Int) := by omega
  have b2 : (L : Int) < (M : Int) := by omega
  have hmk := fun w => make_row M (by omega) w
  rw [show (M : Int) = (L : Int) + 1 by omega] at hmk
  have HS := fun w1 hb1 => Lib.hid (chain_start w w1 (.slice a L c) l hb1)
  rw [← hL, ← hM] at HS
  have HC : ∀ w1, Below (w.alloc (.cells #[.slice a L c] 73)).heap.size (w.alloc (.cells #[.slice a L c] 73)) w1 → w1.cell? ⟨w.heap.size, 0, none⟩ = some (.slice a L c) := fun w1 hb => by
    rw [cell_at (old_below (heap_alloc_new w (.cells #[.slice a L c] 73)) hb)]; rfl
  have HD : ∀ w1, Below (w.alloc (.cells #[.slice a L c] 73)).heap.size (w.alloc (.cells #[.slice a L c] 73)) w1 → ((w1.alloc (.cells (madeCells zCell (M * 5)) 44)).alloc (.cells #[.slice (some ⟨w1.heap.size, 0, none⟩) M M] 74)).cell? ⟨w.heap.size, 0, none⟩ = some (.slice a L c) := fun w1 hb => by
    rw [cell_at (old_alloc (old_alloc (old_below (heap_alloc_new w (.cells #[.slice a L c] 73)) hb) _) _)]; rfl
  have HM := Lib.hid hM
  clear hL hl h h2 hM
  go_enter Try.func7, Try.ntmps7
  go_wp2_with (go_at_call 9; refine (K _).out.mono ?_; rintro e w1 ⟨rfl, hb1⟩; have ql := HC w1 hb1; have qd := HD w1 hb1; have HG := HS w1 hb1; clear HC HS HD)
  obtain ⟨X, hX⟩ : ∃ X, X = w1.heap.size := ⟨_, rfl⟩
  rw [← hX] at HG ⊢
  clear hX hb1 K ql qd hmk
  go_wp2_with (go_at_call 13; (with_reducible refine HG.out.mono ?_); rintro e w2 ⟨rfl, hS⟩; have ql : w2.cell? ⟨w.heap.size, 0, none⟩ = some (.slice a L c) := SliceAt.cell hS.vl)
  have HS2 := Lib.hid hS
  clear HG hS ql
  have v0 : Hid (val l (L - L) = 5) := by rw [Nat.sub_self]; exact rfl
  go_loopg [6, 5] (L) (fun g vi vw wr => ∃ k : Nat, k ≤ L ∧ k ≤ g ∧ vi = .int .i64 ((k : Int) - 1) ∧ (∃ x, vw = .int .i64 x ∧ Hid (x = val l (L - k))) ∧ Hid (CSt w X L (.slice a L c) l wr))
  case atStart => exact ⟨L, Nat.le_refl _, Nat.le_refl _, rfl, ⟨_, rfl, v0.out.symm⟩, HS2.out⟩
  case round =>
    clear HS2 v0
    obtain ⟨k, hk, hg, rfl, ⟨x, rfl, hx⟩, hS⟩ := hrel
    have ql : wr.cell? ⟨w.heap.size, 0, none⟩ = some (.slice a L c) := SliceAt.cell hS.out.vl
    cases k with
    | succ j =>
      have e1 : ((j + 1 : Nat) : Int) - 1 = (j : Int) := by omega
      rw [e1]
      have b3 : (0 : Int) ≤ (j : Int) := by omega
      have b4 : (j : Int) < (L : Int) := by omega
      obtain ⟨b, off, rfl, hb, he⟩ := H2.out (by rw [← HL.out]; omega)
      have ek := he j (by rw [← HL.out]; omega)
      rw [← hS.out.bel.cell (p := ⟨b, off + j, none⟩) hb] at ek
      obtain ⟨y, hy⟩ : ∃ y, y = l.getD j 0 := ⟨_, rfl⟩
      rw [← hy] at ek
      have HY := Lib.hid hy
      clear hy he e1
      go_wp2
      go_roundg (j)
      case measure => omega
      case rel => exact ⟨j, by omega, by omega, rfl, ⟨_, rfl, by rw [hx.out, HY.out, HL.out, ← val_step l j (by rw [← HL.out]; omega)]; exact rfl⟩, hS.out⟩
    | zero =>
      have HX : Hid (x = val l L) := hx.out
      have HS3 : Hid (CSt w X L (.slice a L c) l (wr.alloc (.cells #[.int .i64 ((L : Int) - 1)] 3))) := hS.out.below (below_new wr _)
      have HI3 : Hid (IntAt (wr.alloc (.cells #[.int .i64 ((L : Int) - 1)] 3)) wr.heap.size ((L : Int) - 1)) := IntAt.new wr _
      have HLT : X + 1 < wr.heap.size := lt_of_block hS.out.vc
      clear hx hS
      go_wp2
      clear ql hk hg
      go_loopg [7] (L) (fun g vi wr => ∃ k bi : Nat, k ≤ L ∧ k ≤ g ∧ vi = .pointer (some ⟨bi, 0, none⟩) ∧ X + 1 < bi ∧ Hid (CSt w X k (.slice a L c) l wr) ∧ Hid (IntAt wr bi ((k : Int) - 1)))
      case atStart => exact ⟨L, _, Nat.le_refl _, Nat.le_refl _, rfl, HLT, HS3.out, HI3.out⟩
      case round =>
        clear HS3 HI3 HLT
        obtain ⟨k, bi, hk, hg, rfl, hbi, hS, hI⟩ := hrel
        have qi := hI.out.cell
        have qc : wr.cell? ⟨X + 1, 0, none⟩ = some (.slice (some ⟨X, 0, none⟩) M M) := by
          have h := SliceAt.cell hS.out.vc
          rw [← HL.out, ← HM.out] at h
          exact h
        cases k with
        | succ j =>
          have e1 : ((j + 1 : Nat) : Int) - 1 = (j : Int) := by omega
          rw [e1] at qi hI
          have b3 : (0 : Int) ≤ (j : Int) := by omega
          have b4 : (j : Int) < (M : Int) := by omega
          have b5 : (j : Int) ≤ 30 := by omega
          have HO := Lib.hid (chain_round w X bi j _ l wr HSt.out (by rw [← HL.out]; omega) (by rw [← HL.out]; omega) hS.out hI.out hbi)
          clear hS e1
          go_wp2_with (go_at_call 13; (with_reducible refine HO.out.mono ?_); rintro e w5 ⟨rfl, hS5, hI5⟩; have ri := hI5.cell)
          have HS5 := Lib.hid (hS5.below (below_new w5 (.cells #[.int .i64 ((j : Int) - 1)] 3)))
          have HI5 := Lib.hid (IntAt.new w5 ((j : Int) - 1))
          have hl5 := lt_of_block hS5.vc
          clear qi qc hS5 hI5 HO ri
          go_wp2
          go_roundg (j)
          case measure => omega
          case rel => exact ⟨j, _, by omega, by omega, rfl, hl5, HS5.out, HI5.out⟩
        | zero =>
          have qi : wr.cell? ⟨bi, 0, none⟩ = some (.int .i64 (-1)) := qi
          have HE : Hid (Calls Try.prog 13 #[.pointer (some ⟨X, 0, none⟩), .func (.func 30) #[] #[]] wr fun e w' => e = .returned (.int .i64 x) ∧ Below w.heap.size w w') := by
            obtain ⟨c, hr⟩ := hS.out.row
            rw [HX.out, HL.out]
            exact (chain3 wr X l c hr 30 #[]).mono fun e w' ⟨he, hb⟩ => ⟨he, thenBelow hS.out.bel hb⟩
          clear hS hI HX
          go_wp2_with (go_at_call 13; (with_reducible refine HE.out.mono ?_); rintro e w6 ⟨rfl, hb6⟩)
          go_ret
          exact ⟨rfl, hb6⟩

theorem chain_walk (w : World) (v : Value) (l : List Int) (hs : IntsIn w v l) :
    Calls Try.prog 7 #[v] w fun r w' => r = .returned (.bool true) ∧ Below w.heap.size w w' := by
  by_cases h : l.length ≤ 30
  · exact chain_in w v l hs h
  · exact chain_skip w v l hs (by omega)

end Go.Proofs.Ytalgbimclagdjaa.P3
