/-
  Package once's Cell of an int: made by its first function; made already.
-/
import Derived.Test.YtalgbimclagdjaaCount3
import Derived.Deep.RegionHeld3
namespace Go.Proofs.Ytalgbimclagdjaa.P3
open Go Go.RowKit Go.Lib

/-- the cells of a Cell that stands at off: not made · made -/
def Fresh (c : Array Value) (off : Nat) : Prop := c[off]? = some (.int .u32 0) ∧ c[off + 1]? = some (.int .i32 0) ∧ c[off + 3]? = some (.int .u32 0) ∧ off + 4 < c.size
def Made (c : Array Value) (off : Nat) (v : Value) : Prop := c[off]? = some (.int .u32 1) ∧ c[off + 3]? = some (.int .u32 1) ∧ c[off + 4]? = some v
/-- what a row is behind the first Get -/
def doneAt (c : Array Value) (off : Nat) (v : Value) : Array Value :=
  ((((c.setIfInBounds (off + 1) (.int .i32 1)).setIfInBounds (off + 4) v).setIfInBounds (off + 3) (.int .u32 1)).setIfInBounds off (.int .u32 1)).setIfInBounds (off + 1) (.int .i32 0)
theorem done_size (c : Array Value) (off : Nat) (v : Value) : (doneAt c off v).size = c.size := by simp [doneAt]
theorem done_made (c : Array Value) (off : Nat) (v : Value) (h : off + 4 < c.size) : Made (doneAt c off v) off v := by
  unfold Made doneAt
  refine ⟨?_, ?_, ?_⟩ <;> simp [Array.getElem?_setIfInBounds] <;> omega
theorem done_other (c : Array Value) (off j : Nat) (v : Value) (h : j < off ∨ off + 5 ≤ j) : (doneAt c off v)[j]? = c[j]? := by
  unfold doneAt
  simp only [Array.getElem?_setIfInBounds]
  rw [if_neg (by omega), if_neg (by omega), if_neg (by omega), if_neg (by omega), if_neg (by omega)]

set_option maxRecDepth 100000 in
theorem call_fnI (f : Nat) (hin : ∀ args w, (callFunc f args).run Try.prog w = .ok (.enter f args) w) (caps : Array Value) (w : World) (v : Int) (R : World → Prop)
    (H : Calls Try.prog f caps w fun e w' => e = .returned (.int .i64 v) ∧ R w') :
    Calls Try.prog 38 #[.func (.func f) #[] caps] w fun e w' => e = .returned (.int .i64 v) ∧ R w' := by
  have HH := Lib.hid H
  have hne := fun (w : World) => run_eql_func_nil w 46 (.func f) #[] caps Try.underlying46
  clear H
  go_enter Try.func38, Try.ntmps38
  go_wp2_with fail
  refine HH.out.mono ?_
  rintro e w' ⟨rfl, hr⟩
  go_wp2
  go_ret
  exact ⟨rfl, hr⟩

set_option maxRecDepth 100000 in
theorem call_nilI (w : World) : Calls Try.prog 38 #[.nilFunc] w fun e w' => e = .returned (.int .i64 0) ∧ w = w' := by
  have hne := fun (w : World) => run_eql_nil_nil w 46 Try.underlying46
  go_enter Try.func38, Try.ntmps38
  go_wp2
  go_ret
  exact ⟨rfl, rfl⟩

set_option maxRecDepth 100000 in
/-- Do, where it was done -/
theorem do_done (w : World) (b off : Nat) (f : Value) (hc : w.cell? ⟨b, off, none⟩ = some (.int .u32 1)) :
    Calls Try.prog 35 #[.pointer (some ⟨b, off, none⟩), f] w fun e w' => e = .returned (.tuple #[]) ∧ w = w' := by
  have hnot : ∀ (x : Bool) (w : World), (Op.unary .not (.bool x)).run Try.prog w = .ok (.bool (!x)) w := fun _ _ => rfl
  go_enter Try.func35, Try.ntmps35
  go_wp2_with (go_at_call 33; refine (load_any _ 1 _ hc).mono ?_; rintro e w' ⟨rfl, rfl⟩)
  go_end0
  exact ⟨rfl, rfl⟩

theorem two_blocks {w : World} {b : Nat} {o : Obj} (h : w.heap[b]? = some o) (x y : Obj) :
    ((w.alloc x).alloc y).heap[b]? = some o ∧ ((w.alloc x).alloc y).heap[w.heap.size]? = some x ∧ ((w.alloc x).alloc y).heap[w.heap.size + 1]? = some y := by
  refine ⟨old_alloc (old_alloc h x) y, old_alloc (heap_alloc_new w x) y, ?_⟩
  have := heap_alloc_new (w.alloc x) y
  simpa using this

/-- a function's value, or nil -/
def IsFn (f : Value) : Prop := f = .nilFunc ∨ ∃ g caps, f = .func (.func g) #[] caps

set_option maxRecDepth 100000 in
/-- a Get of one that is made -/
theorem getI_made (w : World) (b off : Nat) (c : Array Value) (t : TypeId) (v : Int) (f : Value) (hf : IsFn f) (hb : w.heap[b]? = some (.cells c t (0, 0))) (hm : Made c off (.int .i64 v)) :
    Calls Try.prog 13 #[.pointer (some ⟨b, off, none⟩), f] w fun e w' => e = .returned (.int .i64 v) ∧ Below w.heap.size w w' := by
  obtain ⟨h1, _, _⟩ := two_blocks hb (.cells #[.pointer (some ⟨b, off, none⟩)] 42) (.cells #[f] 46)
  have c0 := (cell_at h1 off).trans hm.1
  have c4 := (cell_at h1 (off + 4)).trans hm.2.2
  have HD := Lib.hid (fun g => do_done _ b off g c0)
  clear h1 hb hm c0
  rcases hf with rfl | ⟨g, caps, rfl⟩
  all_goals
    go_enter Try.func13, Try.ntmps13
    go_wp2_with (go_at_call 35; refine (HD.out _).mono ?_; rintro e w' ⟨rfl, rfl⟩)
    go_ret
    exact ⟨rfl, grow (below_new _ _) _⟩

/-- what the function that is handed to Do leaves: it ran from w to w2, then the answer was kept -/
def Kept (b off : Nat) (v : Value) (R : World → Prop) (w' : World) : Prop :=
  ∃ w2, R w2 ∧ w' = (w2.setCell ⟨b, off + 4, none⟩ v).drew.setCell ⟨b, off + 3, none⟩ (.int .u32 1)

theorem fr_cell {S : Nat → Prop} {w w' : World} {k j : Nat} {c : Array Value} {t : TypeId} (h : Fr S w w') (hk : w.heap[k]? = some (.cells c t (0, 0))) (hn : ¬ S k) : w'.cell? ⟨k, j, none⟩ = c[j]? :=
  cell_at (h.keep hk hn) j

set_option maxRecDepth 100000 in
set_option maxHeartbeats 1600000 in
/-- the function literal of Get -/
theorem getI1 (w : World) (na nf b off : Nat) (c : Array Value) (t ta tf : TypeId) (fv : Value) (v : Int) (S : Nat → Prop) (R : World → Prop)
    (ha : w.heap[na]? = some (.cells #[.pointer (some ⟨b, off, none⟩)] ta (0, 0))) (hf : w.heap[nf]? = some (.cells #[fv] tf (0, 0)))
    (hb : w.heap[b]? = some (.cells c t (0, 0))) (hc : off + 4 < c.size) (n1 : ¬ S na) (n2 : ¬ S nf) (n3 : ¬ S b) (e1 : b ≠ na) (e2 : b ≠ nf)
    (H : ∀ w1, w1.heap = w.heap → Below w.heap.size w w1 → Calls Try.prog 38 #[fv] w1 fun e w2 => e = .returned (.int .i64 v) ∧ R w2 ∧ Fr S w1 w2) :
    Calls Try.prog 39 #[.pointer (some ⟨na, 0, none⟩), .pointer (some ⟨nf, 0, none⟩)] w fun e w' => e = .returned (.tuple #[]) ∧ Kept b off (.int .i64 v) (fun w2 => R w2 ∧ Fr S w w2) w' := by
  have p1 : w.cell? ⟨na, 0, none⟩ = some (.pointer (some ⟨b, off, none⟩)) := by rw [cell_at ha]; rfl
  have p2 : w.cell? ⟨nf, 0, none⟩ = some fv := by rw [cell_at hf]; rfl
  have HH := Lib.hid H
  have HA := Lib.hid ha
  have HF := Lib.hid hf
  have HB := Lib.hid hb
  obtain ⟨x4, hx4⟩ : ∃ x, c[off + 4]? = some x := ⟨_, Array.getElem?_eq_getElem hc⟩
  have X4 := Lib.hid hx4
  clear H ha hf hb hx4
  go_enter_defers Try.func39, Try.ntmps39
  go_wp2_with fail
  go_region_held3 (fun w' => w'.cell? ⟨na, 0, none⟩ = some (.pointer (some ⟨b, off, none⟩)) ∧ w'.cell? ⟨nf, 0, none⟩ = some fv)
    (first | exact ⟨q5, q6⟩ | exact ⟨q1, q2⟩ | exact ⟨p1, p2⟩)
    ((first
      | (go_at_call 38; refine (HH.out w.drew rfl (Below.refl _ _).drew).mono ?_; rintro e w2 ⟨rfl, hr, hfr⟩; have q1 := fr_cell (j := 0) hfr HA.out n1; have q2 := fr_cell (j := 0) hfr HF.out n2; have q3 := (fr_cell (j := off + 4) hfr HB.out n3).trans X4.out; have q4 := free_at (hfr.keep HB.out n3) (off + 4); have q5 := (World.cell?_setCell_other w2 ⟨b, off + 4, none⟩ ⟨na, 0, none⟩ (.int .i64 v) (fun e => e1 (congrArg Addr.block e))).trans q1; have q6 := (World.cell?_setCell_other w2 ⟨b, off + 4, none⟩ ⟨nf, 0, none⟩ (.int .i64 v) (fun e => e2 (congrArg Addr.block e))).trans q2)))
  go_wp2_with fail
  obtain ⟨x3, hx3⟩ : ∃ x, c[off + 3]? = some x := ⟨_, Array.getElem?_eq_getElem (by omega)⟩
  have r3 : (w2.setCell ⟨b, off + 4, none⟩ (.int .i64 v)).cell? ⟨b, off + 3, none⟩ = some x3 :=
    (World.cell?_setCell_other w2 ⟨b, off + 4, none⟩ ⟨b, off + 3, none⟩ (.int .i64 v) (by simp)).trans ((fr_cell (j := off + 3) hfr HB.out n3).trans hx3)
  refine leaves_cons (f := 37) (args := #[.pointer (some ⟨b, off + 3, none⟩), .bool true]) (by simp) (by simp [go_sem]) ?_
  refine (store_deferred ⟨b, off + 3, none⟩ x3 .returning _ r3 (by have := free_at (hfr.keep HB.out n3) (off + 3); simpa using this)).mono ?_
  rintro e u' w'' ⟨rfl, rfl, rfl⟩
  exact ⟨_, results_none rfl _ _ _, rfl, w2, ⟨hr, (Fr.of (Below.refl _ w).drew).trans hfr⟩, rfl⟩

set_option maxRecDepth 100000 in
set_option maxHeartbeats 1600000 in
/-- doSlow, not done and the lock free: the function is called under the lock -/
theorem slow_first (w : World) (b off : Nat) (c : Array Value) (t : TypeId) (g : Nat) (hin : ∀ args w, (callFunc g args).run Try.prog w = .ok (.enter g args) w) (caps : Array Value) (T : World → Prop)
    (hb : w.heap[b]? = some (.cells c t (0, 0))) (h0 : c[off]? = some (.int .u32 0)) (h1 : c[off + 1]? = some (.int .i32 0))
    (hT : ∀ w', T w' → ∃ c2, w'.heap[b]? = some (.cells c2 t (0, 0)) ∧ c2[off]? = some (.int .u32 0) ∧ c2[off + 1]? = some (.int .i32 1))
    (H : Calls Try.prog g caps (w.setCell ⟨b, off + 1, none⟩ (.int .i32 1)) fun e w' => e = .returned (.tuple #[]) ∧ T w') :
    Calls Try.prog 51 #[.pointer (some ⟨b, off, none⟩), .func (.func g) #[] caps] w fun e w' => e = .returned (.tuple #[]) ∧ ∃ w2, T w2 ∧ w' = (w2.drew.setCell ⟨b, off, none⟩ (.int .u32 1)).setCell ⟨b, off + 1, none⟩ (.int .i32 0) := by
  have hnot : ∀ (x : Bool) (w : World), (Op.unary .not (.bool x)).run Try.prog w = .ok (.bool (!x)) w := fun _ _ => rfl
  have HH := Lib.hid H
  have HT := Lib.hid hT
  have c1 : w.cell? ⟨b, off + 1, none⟩ = some (.int .i32 0) := (cell_at hb _).trans h1
  have f1 := free_at hb (off + 1)
  have c0 : (w.setCell ⟨b, off + 1, none⟩ (.int .i32 1)).cell? ⟨b, off, none⟩ = some (.int .u32 0) := by
    rw [World.cell?_setCell_other _ ⟨b, off + 1, none⟩ ⟨b, off, none⟩ _ (by simp)]
    exact (cell_at hb _).trans h0
  clear H hT hb h0 h1
  go_enter_defers Try.func51, Try.ntmps51
  go_wp2_with (first
    | (go_at_call 44; refine (lock_free ⟨b, off + 1, none⟩ _ c1 f1).mono ?_; rintro e w' ⟨rfl, rfl⟩)
    | (go_at_call 33; refine (load_any _ 0 _ c0).mono ?_; rintro e w' ⟨rfl, rfl⟩))
  refine HH.out.mono ?_
  rintro e w' ⟨rfl, ht⟩
  have hc2 := Lib.hid (HT.out w' ht)
  go_wp2_with fail
  obtain ⟨c2, k1, k2, k3⟩ := hc2.out
  refine leaves_cons (f := 37) (args := #[.pointer (some ⟨b, off, none⟩), .bool true]) (by simp) (by simp [go_sem]) ?_
  refine (store_deferred ⟨b, off, none⟩ (.int .u32 0) .returning _ ((cell_at k1 _).trans k2) (free_at k1 off)).mono ?_
  rintro e u' w'' ⟨rfl, rfl, rfl⟩
  refine leaves_cons (f := 45) (args := #[.pointer (some ⟨b, off + 1, none⟩)]) (by simp [settle]) (by simp [go_sem]) ?_
  refine (unlock_deferred ⟨b, off + 1, none⟩ _ _ ?_ ?_).mono ?_
  · refine (World.cell?_setCell_other _ ⟨b, off, none⟩ ⟨b, off + 1, none⟩ _ (by simp)).trans ?_
    rw [World.cell?_drew]
    exact (cell_at k1 _).trans k3
  · have := free_at k1 (off + 1)
    simpa using this
  rintro e u' w'' ⟨rfl, rfl, rfl⟩
  simp [Leaves, settle, results, Try.results51]
  exact ⟨w', ht, rfl⟩

set_option maxRecDepth 100000 in
theorem do_first (w : World) (b off : Nat) (c : Array Value) (t : TypeId) (g : Nat) (hin : ∀ args w, (callFunc g args).run Try.prog w = .ok (.enter g args) w) (caps : Array Value) (T : World → Prop)
    (hb : w.heap[b]? = some (.cells c t (0, 0))) (h0 : c[off]? = some (.int .u32 0)) (h1 : c[off + 1]? = some (.int .i32 0))
    (hT : ∀ w', T w' → ∃ c2, w'.heap[b]? = some (.cells c2 t (0, 0)) ∧ c2[off]? = some (.int .u32 0) ∧ c2[off + 1]? = some (.int .i32 1))
    (H : Calls Try.prog g caps (w.setCell ⟨b, off + 1, none⟩ (.int .i32 1)) fun e w' => e = .returned (.tuple #[]) ∧ T w') :
    Calls Try.prog 35 #[.pointer (some ⟨b, off, none⟩), .func (.func g) #[] caps] w fun e w' => e = .returned (.tuple #[]) ∧ ∃ w2, T w2 ∧ w' = (w2.drew.setCell ⟨b, off, none⟩ (.int .u32 1)).setCell ⟨b, off + 1, none⟩ (.int .i32 0) := by
  have HS := Lib.hid (slow_first w b off c t g hin caps T hb h0 h1 hT H)
  have hnot : ∀ (x : Bool) (w : World), (Op.unary .not (.bool x)).run Try.prog w = .ok (.bool (!x)) w := fun _ _ => rfl
  have c0 : w.cell? ⟨b, off, none⟩ = some (.int .u32 0) := (cell_at hb _).trans h0
  clear H hT hb h0 h1 hin
  go_enter Try.func35, Try.ntmps35
  go_wp2_with (first
    | (go_at_call 33; refine (load_any _ 0 _ c0).mono ?_; rintro e w' ⟨rfl, rfl⟩)
    | (go_at_call 51; refine HS.out.mono ?_; rintro e w' ⟨rfl, hw⟩))
  go_end0
  exact ⟨rfl, hw⟩

/-- what the first Get leaves: the function ran up to w2, then only the Cell's block changed, and it is made -/
def Got (b off : Nat) (c : Array Value) (t : TypeId) (v : Value) (S : Nat → Prop) (R : World → Prop) (w w' : World) : Prop :=
  ∃ w2, R w2 ∧ Only b w2 w' ∧ w'.heap[b]? = some (.cells (doneAt c off v) t (0, 0)) ∧ Fr (fun k => k = b ∨ S k) w w'

theorem enters_getI1 : ∀ args w, (callFunc 39 args).run Try.prog w = .ok (.enter 39 args) w := fun args w => enters Try.func39 (by kernel_rfl) rfl args w

/-- the Do of a Get -/
theorem doI (w : World) (na nf b off : Nat) (c : Array Value) (t ta tf : TypeId) (fv : Value) (v : Int) (S : Nat → Prop) (R : World → Prop)
    (ha : w.heap[na]? = some (.cells #[.pointer (some ⟨b, off, none⟩)] ta (0, 0))) (hf : w.heap[nf]? = some (.cells #[fv] tf (0, 0)))
    (hb : w.heap[b]? = some (.cells c t (0, 0))) (hc : Fresh c off) (n1 : ¬ S na) (n2 : ¬ S nf) (n3 : ¬ S b) (e1 : b ≠ na) (e2 : b ≠ nf)
    (H : ∀ w1, Only b w w1 → w1.heap[b]? = some (.cells (c.setIfInBounds (off + 1) (.int .i32 1)) t (0, 0)) → Calls Try.prog 38 #[fv] w1 fun e w2 => e = .returned (.int .i64 v) ∧ R w2 ∧ Fr S w1 w2) :
    Calls Try.prog 35 #[.pointer (some ⟨b, off, none⟩), .func (.func 39) #[] #[.pointer (some ⟨na, 0, none⟩), .pointer (some ⟨nf, 0, none⟩)]] w fun e w' => e = .returned (.tuple #[]) ∧ Got b off c t (.int .i64 v) S R w w' := by
  obtain ⟨h0, h1, h3, h4⟩ := hc
  have o1 : Only b w (w.setCell ⟨b, off + 1, none⟩ (.int .i32 1)) := (Only.refl _ _).setCell _ _
  have hb1 := set_at hb (off + 1) (.int .i32 1)
  have G := getI1 (w.setCell ⟨b, off + 1, none⟩ (.int .i32 1)) na nf b off _ t ta tf fv v S R (o1.keep ha e1.symm) (o1.keep hf e2.symm) hb1 (by simpa using h4) n1 n2 n3 e1 e2
    (fun w1 hh hbl => H w1 (o1.trans (.of hbl)) (by rw [hh]; exact hb1))
  refine (do_first w b off c t 39 enters_getI1 _ _ hb h0 h1 ?_ G).mono ?_
  · rintro w' ⟨w2, ⟨_, hfr⟩, rfl⟩
    have k2 := hfr.keep hb1 n3
    refine ⟨_, set_at (set_at k2 _ _) _ _, ?_, ?_⟩
    · simp only [Array.getElem?_setIfInBounds]
      rw [if_neg (by omega), if_neg (by omega), if_neg (by omega)]
      exact h0
    · simp only [Array.getElem?_setIfInBounds]
      rw [if_neg (by omega), if_neg (by omega), if_pos trivial, if_pos (by omega)]
  · rintro e w' ⟨rfl, wk, ⟨w2, ⟨hr, hfr⟩, rfl⟩, rfl⟩
    have k2 := hfr.keep hb1 n3
    have o2 : Only b w2 ((((w2.setCell ⟨b, off + 4, none⟩ (.int .i64 v)).drew.setCell ⟨b, off + 3, none⟩ (.int .u32 1)).drew.setCell ⟨b, off, none⟩ (.int .u32 1)).setCell ⟨b, off + 1, none⟩ (.int .i32 0)) :=
      (((((Only.refl b w2).setCell _ _).drew.setCell _ _).drew.setCell _ _).setCell _ _)
    refine ⟨rfl, w2, hr, o2, set_at (set_at (set_at (set_at k2 _ _) _ _) _ _) _ _, ?_⟩
    exact ((Fr.only o1 (.inl rfl)).trans (hfr.mono fun k _ hs => .inr hs)).trans (.only o2 (.inl rfl))

set_option maxRecDepth 100000 in
/-- the first Get, of a function or of nil -/
theorem getI_any (w : World) (b off : Nat) (c : Array Value) (t : TypeId) (fv : Value) (v : Int) (S : Nat → Prop) (R : World → Prop) (hfn : IsFn fv)
    (hb : w.heap[b]? = some (.cells c t (0, 0))) (hc : Fresh c off) (hS : ∀ k, S k → k < w.heap.size) (n3 : ¬ S b)
    (H : ∀ w1, Only b w w1 → w1.heap[b]? = some (.cells (c.setIfInBounds (off + 1) (.int .i32 1)) t (0, 0)) → Calls Try.prog 38 #[fv] w1 fun e w2 => e = .returned (.int .i64 v) ∧ R w2 ∧ Fr S w1 w2) :
    Calls Try.prog 13 #[.pointer (some ⟨b, off, none⟩), fv] w fun e w' => e = .returned (.int .i64 v) ∧ Got b off c t (.int .i64 v) S R w w' := by
  obtain ⟨h1, h2, h3⟩ := two_blocks hb (.cells #[.pointer (some ⟨b, off, none⟩)] 42) (.cells #[fv] 46)
  have hlt := lt_of_block hb
  have D := doI _ w.heap.size (w.heap.size + 1) b off c t _ _ fv v S R h2 h3 h1 hc (fun h => by have := hS _ h; omega) (fun h => by have := hS _ h; omega) n3 (by omega) (by omega)
    (fun w1 ho hbb => H w1 (((Only.refl b w).alloc _ |>.alloc _).trans ho) hbb)
  have HD := Lib.hid D
  have hm := done_made c off (.int .i64 v) hc.2.2.2
  have hq : ∀ w', Got b off c t (.int .i64 v) S R ((w.alloc (.cells #[.pointer (some ⟨b, off, none⟩)] 42)).alloc (.cells #[fv] 46)) w' → w'.cell? ⟨w.heap.size, 0, none⟩ = some (.pointer (some ⟨b, off, none⟩)) ∧ w'.cell? ⟨b, off + 4, none⟩ = some (.int .i64 v) := by
    rintro w' ⟨w2, _, _, hb', hfr⟩
    exact ⟨cell_at (hfr.keep h2 (fun h => h.elim (by omega) (fun h => by have := hS _ h; omega))) 0, (cell_at hb' _).trans hm.2.2⟩
  have HQ := Lib.hid hq
  clear D H h1 h2 h3 hb hc hm hS hq
  rcases hfn with rfl | ⟨g, caps, rfl⟩
  all_goals
    go_enter Try.func13, Try.ntmps13
    go_wp2_with (go_at_call 35; refine HD.out.mono ?_; rintro e w' ⟨rfl, hg⟩; obtain ⟨q1, q2⟩ := HQ.out w' hg)
    go_ret
    obtain ⟨w2, hr, ho, hb', hfr⟩ := hg
    exact ⟨rfl, w2, hr, ho, hb', ((Fr.of (below_new w _)).trans (.of (below_new _ _))).trans hfr⟩

/-- the first Get of a function -/
theorem getI_first (w : World) (b off : Nat) (c : Array Value) (t : TypeId) (g : Nat) (hin : ∀ args w, (callFunc g args).run Try.prog w = .ok (.enter g args) w) (caps : Array Value) (v : Int) (S : Nat → Prop) (R : World → Prop)
    (hb : w.heap[b]? = some (.cells c t (0, 0))) (hc : Fresh c off) (hS : ∀ k, S k → k < w.heap.size) (n3 : ¬ S b)
    (H : ∀ w1, Only b w w1 → w1.heap[b]? = some (.cells (c.setIfInBounds (off + 1) (.int .i32 1)) t (0, 0)) → Calls Try.prog g caps w1 fun e w2 => e = .returned (.int .i64 v) ∧ R w2 ∧ Fr S w1 w2) :
    Calls Try.prog 13 #[.pointer (some ⟨b, off, none⟩), .func (.func g) #[] caps] w fun e w' => e = .returned (.int .i64 v) ∧ Got b off c t (.int .i64 v) S R w w' :=
  getI_any w b off c t _ v S R (.inr ⟨g, caps, rfl⟩) hb hc hS n3 fun w1 ho hb1 => call_fnI g hin caps w1 v (fun w2 => R w2 ∧ Fr S w1 w2) (H w1 ho hb1)

/-- the first Get of nil -/
theorem getI_none (w : World) (b off : Nat) (c : Array Value) (t : TypeId) (hb : w.heap[b]? = some (.cells c t (0, 0))) (hc : Fresh c off) :
    Calls Try.prog 13 #[.pointer (some ⟨b, off, none⟩), .nilFunc] w fun e w' => e = .returned (.int .i64 0) ∧ Got b off c t (.int .i64 0) (fun _ => False) (fun _ => True) w w' :=
  getI_any w b off c t _ 0 _ _ (.inl rfl) hb hc (fun _ h => h.elim) id fun w1 _ _ => (call_nilI w1).mono fun _ _ ⟨he, hw⟩ => ⟨he, trivial, hw ▸ Fr.refl _ _⟩

set_option maxRecDepth 100000 in
/-- Get of a nil Cell: the function is called -/
theorem getI_nilcell (w : World) (g : Nat) (hin : ∀ args w, (callFunc g args).run Try.prog w = .ok (.enter g args) w) (caps : Array Value) (v : Int) (R : World → Prop)
    (H : ∀ w1, Below w.heap.size w w1 → Calls Try.prog g caps w1 fun e w2 => e = .returned (.int .i64 v) ∧ R w2) :
    Calls Try.prog 13 #[.pointer none, .func (.func g) #[] caps] w fun e w' => e = .returned (.int .i64 v) ∧ R w' := by
  have HC := Lib.hid (call_fnI g hin caps ((w.alloc (.cells #[.pointer none] 42)).alloc (.cells #[.func (.func g) #[] caps] 46)) v R (H _ (grow (below_new _ _) _)))
  clear H
  go_enter Try.func13, Try.ntmps13
  go_wp2_with (go_at_call 38; refine HC.out.mono ?_; rintro e w' ⟨rfl, hg⟩)
  go_ret
  exact ⟨rfl, hg⟩

set_option maxRecDepth 100000 in
theorem madeI_yes (w : World) (b off : Nat) (c : Array Value) (t : TypeId) (hb : w.heap[b]? = some (.cells c t (0, 0))) (h : c[off + 3]? = some (.int .u32 1)) :
    Calls Try.prog 27 #[.pointer (some ⟨b, off, none⟩)] w fun e w' => e = .returned (.bool true) ∧ w = w' := by
  have c3 : w.cell? ⟨b, off + 3, none⟩ = some (.int .u32 1) := (cell_at hb _).trans h
  clear hb h
  go_enter Try.func27, Try.ntmps27
  go_wp2_with (go_at_call 33; refine (load_any _ 1 _ c3).mono ?_; rintro e w' ⟨rfl, rfl⟩)
  go_ret
  exact ⟨rfl, rfl⟩
set_option maxRecDepth 100000 in
theorem madeI_no (w : World) (b off : Nat) (c : Array Value) (t : TypeId) (hb : w.heap[b]? = some (.cells c t (0, 0))) (h : c[off + 3]? = some (.int .u32 0)) :
    Calls Try.prog 27 #[.pointer (some ⟨b, off, none⟩)] w fun e w' => e = .returned (.bool false) ∧ w = w' := by
  have c3 : w.cell? ⟨b, off + 3, none⟩ = some (.int .u32 0) := (cell_at hb _).trans h
  clear hb h
  go_enter Try.func27, Try.ntmps27
  go_wp2_with (go_at_call 33; refine (load_any _ 0 _ c3).mono ?_; rintro e w' ⟨rfl, rfl⟩)
  go_ret
  exact ⟨rfl, rfl⟩
theorem madeI_nilcell (w : World) : Calls Try.prog 27 #[.pointer none] w fun e w' => e = .returned (.bool false) ∧ w = w' := by
  go_enter Try.func27, Try.ntmps27
  go_wp2
  go_ret
  exact ⟨rfl, rfl⟩

end Go.Proofs.Ytalgbimclagdjaa.P3
