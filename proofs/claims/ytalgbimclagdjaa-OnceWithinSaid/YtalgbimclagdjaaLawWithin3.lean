/-
  P301: cells within each other: the walk of the statement OnceWithin.
-/
import Derived.Test.YtalgbimclagdjaaVars3
import Derived.Deep.LoopGhost
import Derived.Deep.RegionHeld3
namespace Go.Proofs.Ytalgbimclagdjaa.P3
open Go Go.RowKit Go.Lib Go.Maps Go.ChangeMaps Go.MapKept

theorem within11 (w : World) (bm ba bi : Nat) (k a i : Int) (hm : IntAt w bm k) (ha : IntAt w ba a) (hi : IntAt w bi i) (n1 : bm ≠ ba) (n2 : bm ≠ bi) :
    Calls Try.prog 15 #[.pointer (some ⟨bm, 0, none⟩), .pointer (some ⟨ba, 0, none⟩), .pointer (some ⟨bi, 0, none⟩)] w fun e w' => e = .returned (.int .i64 (wrap64 (a + i))) ∧ IntAt w' bm (wrap64 (k + 1)) ∧ Only bm w w' := by
  have c1 := hm.cell
  have f1 := hm.free
  have ho : Only bm w (w.setCell ⟨bm, 0, none⟩ (.int .i64 (wrap64 (k + 1)))) := (Only.refl _ _).setCell 0 _
  have c2 := (ha.only ho n1.symm).cell
  have c3 := (hi.only ho n2.symm).cell
  have HS := Lib.hid (hm.set (wrap64 (k + 1)))
  have HO := Lib.hid ho
  clear hm ha hi ho
  go_enter Try.func15, Try.ntmps15
  go_wp2
  go_ret
  exact ⟨rfl, HS.out, HO.out⟩
theorem en_within11 : ∀ args w, (callFunc 15 args).run Try.prog w = .ok (.enter 15 args) w := fun args w => enters Try.func15 (by kernel_rfl) rfl args w

theorem fin2 (w : World) : Calls Try.prog 16 #[] w fun e w' => e = .returned (.int .i64 (-1)) ∧ w = w' := by
  go_enter Try.func16, Try.ntmps16
  go_wp2
  go_ret
  exact ⟨rfl, rfl⟩

/-- block b is a variable that holds the pointer to block c -/
def PtrAt (w : World) (b c : Nat) (t : TypeId) : Prop := w.heap[b]? = some (.cells #[.pointer (some ⟨c, 0, none⟩)] t (0, 0))
theorem PtrAt.cell {w : World} {b c : Nat} {t : TypeId} (h : PtrAt w b c t) : w.cell? ⟨b, 0, none⟩ = some (.pointer (some ⟨c, 0, none⟩)) := by rw [cell_at h]; rfl

theorem wrap_small {a : Int} (h : (Lit.int .i64 a).wf = true) : wrap64 (a + 0) = a := by
  rw [Int.add_zero]
  refine IntWalk.wrap64_in a ?_
  simp [Lit.wf, IntKind.min, IntKind.max, IntKind.signed, IntKind.bits] at h
  omega

theorem ne_type {w : World} {b k : Nat} {c c' : Array Value} {t t' : TypeId} {f f' : Nat × Nat} (h : w.heap[b]? = some (.cells c t f)) (h' : w.heap[k]? = some (.cells c' t' f')) (ht : t ≠ t') : b ≠ k := by
  rintro rfl
  rw [h] at h'
  simp only [Option.some.injEq, Obj.cells.injEq] at h'
  exact ht h'.2.1

set_option maxRecDepth 100000 in
set_option maxHeartbeats 1600000 in
/-- the outer cell's function -/
theorem within1 (w : World) (bn bp bm ba bi bb bin : Nat) (tp : TypeId) (a b : Int) (hw : (Lit.int .i64 a).wf = true) (hn : IntAt w bn 0) (hp : PtrAt w bp bin tp) (hm : IntAt w bm 0) (ha : IntAt w ba a) (hi : IntAt w bi 0) (hb : IntAt w bb b)
    (hc : w.heap[bin]? = some (.cells zCell 44 (0, 0))) (d1 : bn ≠ bm) (d2 : bm ≠ ba) (d3 : bm ≠ bi) (d4 : bn ≠ bb) (d5 : bm ≠ bb) (d6 : bn ≠ ba) (d7 : bn ≠ bi) :
    Calls Try.prog 14 #[.pointer (some ⟨bn, 0, none⟩), .pointer (some ⟨bp, 0, none⟩), .pointer (some ⟨bm, 0, none⟩), .pointer (some ⟨ba, 0, none⟩), .pointer (some ⟨bi, 0, none⟩), .pointer (some ⟨bb, 0, none⟩)] w fun e w' =>
      e = .returned (.int .i64 (bits .xor .i64 a b)) ∧ (IntAt w' bn 1 ∧ IntAt w' bm 1 ∧ w'.heap[bin]? = some (.cells (doneAt zCell 0 (.int .i64 a)) 44 (0, 0))) ∧ Fr (fun k => k = bn ∨ k = bm ∨ k = bin) w w' := by
  obtain ⟨w1, hw1⟩ : ∃ w1, w1 = w.setCell ⟨bn, 0, none⟩ (.int .i64 1) := ⟨_, rfl⟩
  have ho : Only bn w w1 := by rw [hw1]; exact (Only.refl _ _).setCell 0 _
  have i1 : bn ≠ bin := ne_type hn hc (by decide)
  have i2 : bm ≠ bin := ne_type hm hc (by decide)
  have i3 : ba ≠ bin := ne_type ha hc (by decide)
  have i4 : bi ≠ bin := ne_type hi hc (by decide)
  have i5 : bb ≠ bin := ne_type hb hc (by decide)
  have hn1 : IntAt w1 bn 1 := by rw [hw1]; exact hn.set 1
  have hm1 := hm.only ho d1.symm
  have ha1 := ha.only ho d6.symm
  have hi1 := hi.only ho d7.symm
  have hb1 := hb.only ho d4.symm
  have hc1 : w1.heap[bin]? = some (.cells zCell 44 (0, 0)) := ho.keep hc i1.symm
  have hpn : bp ≠ bn := by
    rintro rfl
    have := hn
    unfold IntAt at this
    rw [hp] at this
    simp at this
  have hpm : bp ≠ bm := by
    rintro rfl
    have := hm
    unfold IntAt at this
    rw [hp] at this
    simp at this
  have hpb : bp ≠ bin := by
    rintro rfl
    rw [hp] at hc
    simp at hc
  have hp1 : PtrAt w1 bp bin tp := ho.keep hp hpn
  have G := getI_first w1.drew bin 0 zCell 44 15 en_within11 #[.pointer (some ⟨bm, 0, none⟩), .pointer (some ⟨ba, 0, none⟩), .pointer (some ⟨bi, 0, none⟩)] a (· = bm) (fun w2 => IntAt w2 bm 1) hc1 zCell_fresh (fun k hk => by rw [hk]; exact hm1.lt) (fun e => i2 e.symm)
    (fun wa hoa _ => (within11 wa bm ba bi 0 a 0 (hm1.only ((Only.refl bin w1).drew.trans hoa) i2) (ha1.only ((Only.refl bin w1).drew.trans hoa) i3) (hi1.only ((Only.refl bin w1).drew.trans hoa) i4) d2 d3).mono fun e w2 ⟨he, hc2, ho2⟩ => ⟨by rw [he, wrap_small hw], by rw [show wrap64 (0 + 1) = 1 from by decide +kernel] at hc2; exact hc2, Fr.only ho2 rfl⟩)
  have c1 := hn.cell
  have f1 := hn.free
  have p1 := hp1.cell
  have b1 := hb1.cell
  have hpost : ∀ w' : World, Got bin 0 zCell 44 (.int .i64 a) (· = bm) (fun w2 => IntAt w2 bm 1) w1.drew w' → w'.cell? ⟨bp, 0, none⟩ = some (.pointer (some ⟨bin, 0, none⟩)) ∧ w'.cell? ⟨bb, 0, none⟩ = some (.int .i64 b) ∧
      (IntAt w' bn 1 ∧ IntAt w' bm 1 ∧ w'.heap[bin]? = some (.cells (doneAt zCell 0 (.int .i64 a)) 44 (0, 0))) ∧ Fr (fun k => k = bn ∨ k = bm ∨ k = bin) w w' := by
    rintro w' ⟨w2, hr, hob, hbl, hfr⟩
    have hf1 : Fr (fun k => k = bin ∨ k = bm) w1 w' := (Fr.of (Below.refl _ w1).drew).trans hfr
    exact ⟨PtrAt.cell (hf1.keep hp1 (fun e => e.elim hpb hpm)), (hb1.fr hf1 (fun e => e.elim i5 (fun e => d5 e.symm))).cell, ⟨hn1.fr hf1 (fun e => e.elim i1 (fun e => d1 e)), hr.only hob i2, hbl⟩,
      (Fr.only ho (.inl rfl)).trans (hf1.mono fun k _ e => e.elim (fun e => .inr (.inr e)) (fun e => .inr (.inl e)))⟩
  have HG := Lib.hid G
  have HP := Lib.hid hpost
  have HW := Lib.hid hw1
  clear hn hp hm ha hi hb hc ho hn1 hm1 ha1 hi1 hb1 hc1 hp1 G hpost hw1 hpn hpm hpb i1 i2 i3 i4 i5
  go_enter Try.func14, Try.ntmps14
  go_wp2
  rw [← HW.out]
  go_region_held3 (fun w' => w'.cell? ⟨bp, 0, none⟩ = some (.pointer (some ⟨bin, 0, none⟩)) ∧ w'.cell? ⟨bb, 0, none⟩ = some (.int .i64 b)) (first | exact ⟨q1, q2⟩ | exact ⟨p1, b1⟩)
    ((first | (go_at_call 13; (with_reducible refine HG.out.mono ?_); rintro e w3 ⟨rfl, hg⟩; obtain ⟨q1, q2, q3⟩ := HP.out w3 hg)))
  go_wp2
  go_ret
  exact ⟨rfl, q3⟩

theorem within_skip (w : World) (a b times : Int) (h : ¬ (0 ≤ times ∧ times ≤ 60)) :
    Calls Try.prog 4 #[.int .i64 a, .int .i64 b, .int .i64 times] w fun r w' => r = .returned (.bool true) ∧ Below w.heap.size w w' := by
  have K := fun w' => Lib.hid (alive_any w')
  by_cases c1 : times < 0
  · have k1 : decide (times < 0) = true := decide_eq_true c1
    clear h
    go_enter Try.func4, Try.ntmps4
    go_wp2_with (go_at_call 9; refine (K _).out.mono ?_; rintro e w1 ⟨rfl, hb⟩)
    go_ret
    exact ⟨rfl, thenBelow (grow (below_new _ _) _) hb⟩
  have k1 : decide (times < 0) = false := decide_eq_false c1
  have k2 : decide ((60 : Int) < times) = true := decide_eq_true (by omega)
  clear h
  go_enter Try.func4, Try.ntmps4
  go_wp2_with (go_at_call 9; refine (K _).out.mono ?_; rintro e w1 ⟨rfl, hb⟩)
  go_ret
  exact ⟨rfl, thenBelow (grow (below_new _ _) _) hb⟩

/-- where the statement's variables stand: both cells made, each once -/
structure Aft (w : World) (X bi : Nat) (k a b : Int) (wr : World) : Prop where
  vi : IntAt wr bi k
  vp : PtrAt wr (X + 1 + 1) X 42
  va : IntAt wr w.heap.size a
  vb : IntAt wr (w.heap.size + 1) b
  vn : IntAt wr (X + 1 + 1 + 1) 1
  vm : IntAt wr (X + 1 + 1 + 1 + 1) 1
  cin : wr.heap[X]? = some (.cells (doneAt zCell 0 (.int .i64 a)) 44 (0, 0))
  cout : wr.heap[X + 1]? = some (.cells (doneAt zCell 0 (.int .i64 (bits .xor .i64 a b))) 44 (0, 0))
  bel : Below w.heap.size w wr
  lo : w.heap.size + 1 < X
  hi : X + 1 + 1 + 1 + 1 < bi
/-- .. ahead of the first round -/
structure Bef (w : World) (X bi : Nat) (a b : Int) (wr : World) : Prop where
  vi : IntAt wr bi 0
  vp : PtrAt wr (X + 1 + 1) X 42
  va : IntAt wr w.heap.size a
  vb : IntAt wr (w.heap.size + 1) b
  vn : IntAt wr (X + 1 + 1 + 1) 0
  vm : IntAt wr (X + 1 + 1 + 1 + 1) 0
  cin : wr.heap[X]? = some (.cells zCell 44 (0, 0))
  cout : wr.heap[X + 1]? = some (.cells zCell 44 (0, 0))
  bel : Below w.heap.size w wr
  lo : w.heap.size + 1 < X
  hi : X + 1 + 1 + 1 + 1 < bi
theorem Aft.below {w : World} {X bi : Nat} {k a b : Int} {wr w' : World} (h : Aft w X bi k a b wr) (hb : Below wr.heap.size wr w') : Aft w X bi k a b w' :=
  { h with vi := h.vi.below hb, vp := old_below h.vp hb, va := h.va.below hb, vb := h.vb.below hb, vn := h.vn.below hb, vm := h.vm.below hb, cin := old_below h.cin hb, cout := old_below h.cout hb, bel := thenBelow h.bel hb }
/-- the next round's variable -/
theorem Aft.next {w : World} {X bi : Nat} {k a b : Int} {wr : World} (h : Aft w X bi k a b wr) (k' : Int) : Aft w X wr.heap.size k' a b (wr.alloc (.cells #[.int .i64 k'] 3)) :=
  { h.below (below_new wr _) with vi := IntAt.new wr k', hi := by have := h.vi.lt; have := h.hi; omega }
theorem en_within1 : ∀ args w, (callFunc 14 args).run Try.prog w = .ok (.enter 14 args) w := fun args w => enters Try.func14 (by kernel_rfl) rfl args w

theorem out_first (w : World) (X bi : Nat) (a b : Int) (wr : World) (hw : (Lit.int .i64 a).wf = true) (h : Bef w X bi a b wr) :
    Calls Try.prog 13 #[.pointer (some ⟨X + 1, 0, none⟩), .func (.func 14) #[] #[.pointer (some ⟨X + 1 + 1 + 1, 0, none⟩), .pointer (some ⟨X + 1 + 1, 0, none⟩), .pointer (some ⟨X + 1 + 1 + 1 + 1, 0, none⟩), .pointer (some ⟨w.heap.size, 0, none⟩), .pointer (some ⟨bi, 0, none⟩), .pointer (some ⟨w.heap.size + 1, 0, none⟩)]] wr
      fun e w' => e = .returned (.int .i64 (bits .xor .i64 a b)) ∧ Aft w X bi 0 a b w' := by
  have lo := h.lo
  have hi := h.hi
  have G := getI_first wr (X + 1) 0 zCell 44 14 en_within1 #[.pointer (some ⟨X + 1 + 1 + 1, 0, none⟩), .pointer (some ⟨X + 1 + 1, 0, none⟩), .pointer (some ⟨X + 1 + 1 + 1 + 1, 0, none⟩), .pointer (some ⟨w.heap.size, 0, none⟩), .pointer (some ⟨bi, 0, none⟩), .pointer (some ⟨w.heap.size + 1, 0, none⟩)]
    (bits .xor .i64 a b) (fun k => k = X + 1 + 1 + 1 ∨ k = X + 1 + 1 + 1 + 1 ∨ k = X) (fun w2 => IntAt w2 (X + 1 + 1 + 1) 1 ∧ IntAt w2 (X + 1 + 1 + 1 + 1) 1 ∧ w2.heap[X]? = some (.cells (doneAt zCell 0 (.int .i64 a)) 44 (0, 0))) h.cout zCell_fresh
    (fun k hk => by have := h.vi.lt; rcases hk with rfl | rfl | rfl <;> omega) (fun e => by omega)
    (fun wa ho _ => within1 wa (X + 1 + 1 + 1) (X + 1 + 1) (X + 1 + 1 + 1 + 1) w.heap.size bi (w.heap.size + 1) X 42 a b hw (h.vn.only ho (by omega)) (ho.keep h.vp (by omega)) (h.vm.only ho (by omega)) (h.va.only ho (by omega)) (h.vi.only ho (by omega)) (h.vb.only ho (by omega)) (ho.keep h.cin (by omega))
      (by omega) (by omega) (by omega) (by omega) (by omega) (by omega) (by omega))
  refine G.mono ?_
  rintro e w' ⟨he, w2, ⟨r1, r2, r3⟩, ho2, hb', hfr⟩
  have hne : ∀ k, k ≠ X + 1 → k ≠ X + 1 + 1 + 1 → k ≠ X + 1 + 1 + 1 + 1 → k ≠ X → ¬ (k = X + 1 ∨ k = X + 1 + 1 + 1 ∨ k = X + 1 + 1 + 1 + 1 ∨ k = X) := fun k h1 h2 h3 h4 h5 => by omega
  exact ⟨he, { vi := h.vi.fr hfr (hne _ (by omega) (by omega) (by omega) (by omega)), vp := hfr.keep h.vp (hne _ (by omega) (by omega) (by omega) (by omega)), va := h.va.fr hfr (hne _ (by omega) (by omega) (by omega) (by omega)), vb := h.vb.fr hfr (hne _ (by omega) (by omega) (by omega) (by omega)), vn := r1.only ho2 (by omega), vm := r2.only ho2 (by omega), cin := ho2.keep r3 (by omega), cout := hb', bel := hfr.new h.bel (fun k hk => by omega), lo := lo, hi := hi }⟩

theorem out_next (w : World) (X bi : Nat) (k a b : Int) (wr : World) (h : Aft w X bi k a b wr) (g : Nat) (caps : Array Value) :
    Calls Try.prog 13 #[.pointer (some ⟨X + 1, 0, none⟩), .func (.func g) #[] caps] wr fun e w' => e = .returned (.int .i64 (bits .xor .i64 a b)) ∧ Aft w X bi k a b w' :=
  (getI_made wr (X + 1) 0 _ 44 _ _ (.inr ⟨g, caps, rfl⟩) h.cout (done_made zCell 0 _ (by decide))).mono fun _ _ ⟨he, hb⟩ => ⟨he, h.below hb⟩
theorem in_next (w : World) (X bi : Nat) (k a b : Int) (wr : World) (h : Aft w X bi k a b wr) (g : Nat) (caps : Array Value) :
    Calls Try.prog 13 #[.pointer (some ⟨X, 0, none⟩), .func (.func g) #[] caps] wr fun e w' => e = .returned (.int .i64 a) ∧ Aft w X bi k a b w' :=
  (getI_made wr X 0 _ 44 _ _ (.inr ⟨g, caps, rfl⟩) h.cin (done_made zCell 0 _ (by decide))).mono fun _ _ ⟨he, hb⟩ => ⟨he, h.below hb⟩

/-- either no round was, or both are made -/
def Rel (w : World) (X bi k : Nat) (a b : Int) (wr : World) : Prop := (k = 0 ∧ Bef w X bi a b wr) ∨ (0 < k ∧ Aft w X bi k a b wr)
theorem out_get (w : World) (X bi k : Nat) (a b : Int) (wr : World) (hw : (Lit.int .i64 a).wf = true) (h : Rel w X bi k a b wr) :
    Calls Try.prog 13 #[.pointer (some ⟨X + 1, 0, none⟩), .func (.func 14) #[] #[.pointer (some ⟨X + 1 + 1 + 1, 0, none⟩), .pointer (some ⟨X + 1 + 1, 0, none⟩), .pointer (some ⟨X + 1 + 1 + 1 + 1, 0, none⟩), .pointer (some ⟨w.heap.size, 0, none⟩), .pointer (some ⟨bi, 0, none⟩), .pointer (some ⟨w.heap.size + 1, 0, none⟩)]] wr
      fun e w' => e = .returned (.int .i64 (bits .xor .i64 a b)) ∧ Aft w X bi k a b w' := by
  rcases h with ⟨rfl, h⟩ | ⟨_, h⟩
  · exact out_first w X bi a b wr hw h
  · exact out_next w X bi k a b wr h _ _
theorem Rel.i {w : World} {X bi k : Nat} {a b : Int} {wr : World} (h : Rel w X bi k a b wr) : IntAt wr bi k := by
  rcases h with ⟨rfl, h⟩ | ⟨_, h⟩
  · exact h.vi
  · exact h.vi

/-- the world ahead of the first round -/
theorem bef_start (w w1 : World) (a b : Int) (hb1 : Below ((w.alloc (.cells #[.int .i64 a] 3)).alloc (.cells #[.int .i64 b] 3)).heap.size ((w.alloc (.cells #[.int .i64 a] 3)).alloc (.cells #[.int .i64 b] 3)) w1) :
    Bef w w1.heap.size (w1.heap.size + 1 + 1 + 1 + 1 + 1) a b ((((((w1.alloc (.cells zCell 44)).alloc (.cells zCell 44)).alloc (.cells #[.pointer (some ⟨w1.heap.size, 0, none⟩)] 42)).alloc (.cells #[.int .i64 0] 3)).alloc (.cells #[.int .i64 0] 3)).alloc (.cells #[.int .i64 0] 3)) := by
  have ha0 : IntAt ((w.alloc (.cells #[.int .i64 a] 3)).alloc (.cells #[.int .i64 b] 3)) w.heap.size a := (IntAt.new w a).alloc _
  have hb0 : IntAt ((w.alloc (.cells #[.int .i64 a] 3)).alloc (.cells #[.int .i64 b] 3)) (w.heap.size + 1) b := by
    have := IntAt.new (w.alloc (.cells #[.int .i64 a] 3)) b
    simpa using this
  have ha1 := ha0.below hb1
  have hb2 := hb0.below hb1
  have e1 := heap_alloc_new w1 (.cells zCell 44)
  have e2 := heap_alloc_new (w1.alloc (.cells zCell 44)) (.cells zCell 44)
  have e3 := heap_alloc_new ((w1.alloc (.cells zCell 44)).alloc (.cells zCell 44)) (.cells #[.pointer (some ⟨w1.heap.size, 0, none⟩)] 42)
  have e4 := heap_alloc_new (((w1.alloc (.cells zCell 44)).alloc (.cells zCell 44)).alloc (.cells #[.pointer (some ⟨w1.heap.size, 0, none⟩)] 42)) (.cells #[.int .i64 0] 3)
  have e5 := heap_alloc_new ((((w1.alloc (.cells zCell 44)).alloc (.cells zCell 44)).alloc (.cells #[.pointer (some ⟨w1.heap.size, 0, none⟩)] 42)).alloc (.cells #[.int .i64 0] 3)) (.cells #[.int .i64 0] 3)
  have e6 := heap_alloc_new (((((w1.alloc (.cells zCell 44)).alloc (.cells zCell 44)).alloc (.cells #[.pointer (some ⟨w1.heap.size, 0, none⟩)] 42)).alloc (.cells #[.int .i64 0] 3)).alloc (.cells #[.int .i64 0] 3)) (.cells #[.int .i64 0] 3)
  have hs : ∀ (u : World) (o : Obj), (u.alloc o).heap.size = u.heap.size + 1 := by intro u o; simp
  simp only [hs] at e2 e3 e4 e5 e6
  exact { vi := e6, vp := old_alloc (old_alloc (old_alloc e3 _) _) _, va := ((((((ha1.alloc _).alloc _).alloc _).alloc _).alloc _).alloc _), vb := ((((((hb2.alloc _).alloc _).alloc _).alloc _).alloc _).alloc _), vn := old_alloc (old_alloc e4 _) _, vm := old_alloc e5 _, cin := old_alloc (old_alloc (old_alloc (old_alloc (old_alloc e1 _) _) _) _) _, cout := old_alloc (old_alloc (old_alloc (old_alloc e2 _) _) _) _, bel := grow (grow (grow (grow (grow (grow (thenBelow (grow (below_new w _) _) hb1) _) _) _) _) _) _, lo := hb2.lt, hi := by omega }

set_option maxRecDepth 100000 in
theorem within_in (w : World) (a b : Int) (T : Nat) (hT : T ≤ 60) (hw : (Lit.int .i64 a).wf = true) :
    Calls Try.prog 4 #[.int .i64 a, .int .i64 b, .int .i64 T] w fun r w' => r = .returned (.bool true) ∧ Below w.heap.size w w' := by
  have K := fun w' => Lib.hid (alive_any w')
  have k1 : decide ((T : Int) < 0) = false := decide_eq_false (by omega)
  have k2 : decide ((60 : Int) < (T : Int)) = false := decide_eq_false (by omega)
  have k3 : (T : Int) ≤ 60 := by omega
  go_enter Try.func4, Try.ntmps4
  go_wp2_with (go_at_call 9; refine (K _).out.mono ?_; rintro e w1 ⟨rfl, hb1⟩)
  have HB := Lib.hid (bef_start w w1 a b hb1)
  obtain ⟨X, hX⟩ : ∃ X, X = w1.heap.size := ⟨_, rfl⟩
  rw [← hX] at HB ⊢
  clear hX hb1 K
  go_loopg [11] (T + 1) (fun g v wr => ∃ k bi : Nat, k ≤ T + 1 ∧ T + 1 - k ≤ g ∧ v = .pointer (some ⟨bi, 0, none⟩) ∧ Hid (Rel w X bi k a b wr))
  case atStart => exact ⟨0, _, Nat.zero_le _, by omega, rfl, .inl ⟨rfl, HB.out⟩⟩
  case round =>
    clear HB
    obtain ⟨k, bi, hk, hg, rfl, hR⟩ := hrel
    have qi := hR.out.i.cell
    by_cases hlt : k ≤ T
    · have HO := Lib.hid (out_get w X bi k a b wr hw hR.out)
      clear hR
      go_wp2_with (go_at_call 13; (with_reducible refine HO.out.mono ?_); rintro e w3 ⟨rfl, hA3⟩)
      have qa := hA3.va.cell
      have qb := hA3.vb.cell
      have qp := PtrAt.cell hA3.vp
      have HI := Lib.hid (in_next w X bi k a b w3.drew (hA3.below (Below.refl _ w3).drew) 16 #[])
      clear qi
      go_region_held3 (fun w' => w'.cell? ⟨w.heap.size, 0, none⟩ = some (.int .i64 a) ∧ w'.cell? ⟨w.heap.size + 1, 0, none⟩ = some (.int .i64 b) ∧ w'.cell? ⟨X + 1 + 1, 0, none⟩ = some (.pointer (some ⟨X, 0, none⟩)))
        (first | exact ⟨ra, rb, rp⟩ | exact ⟨qa, qb, qp⟩)
        ((first | (go_at_call 13; (with_reducible refine HI.out.mono ?_); rintro e w4 ⟨rfl, hA4⟩; have ra := hA4.va.cell; have rb := hA4.vb.cell; have rp := PtrAt.cell hA4.vp; have ri := hA4.vi.cell)))
      have HN := Lib.hid (hA4.next ((k : Int) + 1))
      have b1 : (k : Int) ≤ 60 := by omega
      have b2 : (0 : Int) ≤ (k : Int) := by omega
      have hbi := hA4.vi.lt
      clear hA3 hA4 ra rb rp qa qb qp HO HI
      go_wp2
      go_roundg (T - k)
      case measure => omega
      case rel => exact ⟨k + 1, _, by omega, by omega, rfl, .inr ⟨by omega, HN.out⟩⟩
    · obtain rfl : k = T + 1 := by omega
      have hA : Aft w X bi ((T + 1 : Nat) : Int) a b wr := by
        rcases hR.out with ⟨h, _⟩ | ⟨_, h⟩
        · omega
        · exact h
      have qn := hA.vn.cell
      have qm := hA.vm.cell
      have HA := Lib.hid hA
      clear hA hR
      go_wp2
      go_ret
      exact ⟨rfl, HA.out.bel⟩

theorem within_walk (w : World) (a b times : Int) (hw : (Lit.int .i64 a).wf = true) :
    Calls Try.prog 4 #[.int .i64 a, .int .i64 b, .int .i64 times] w fun r w' => r = .returned (.bool true) ∧ Below w.heap.size w w' := by
  by_cases h : 0 ≤ times ∧ times ≤ 60
  · obtain ⟨T, rfl⟩ := Int.eq_ofNat_of_zero_le h.1
    exact within_in w a b T (by omega) hw
  · exact within_skip w a b times h

end Go.Proofs.Ytalgbimclagdjaa.P3
