/-
  Package once's Count.
-/
import Derived.Test.YtalgbimclagdjaaMu3
import Derived.Test.YtalgbimclagdjaaBase3
namespace Go.Proofs.Ytalgbimclagdjaa.P3
open Go Go.RowKit Go.Lib

/-- block b is a Count at n -/
def CountAt (w : World) (b : Nat) (n : Int) : Prop := w.heap[b]? = some (.cells #[.int .i64 n] 54 (0, 0))
theorem CountAt.cell {w : World} {b : Nat} {n : Int} (h : CountAt w b n) : w.cell? ⟨b, 0, none⟩ = some (.int .i64 n) := by rw [cell_at h]; rfl
theorem CountAt.free {w : World} {b : Nat} {n : Int} (h : CountAt w b n) : w.frozen? ⟨b, 0, none⟩ = false := free_at h 0
theorem CountAt.set {w : World} {b : Nat} {n : Int} (h : CountAt w b n) (m : Int) : CountAt (w.setCell ⟨b, 0, none⟩ (.int .i64 m)) b m := by
  unfold CountAt; rw [set_at h]; rfl

theorem countAdd (w : World) (b : Nat) (n d : Int) (h : CountAt w b n) :
    Calls Try.prog 17 #[.pointer (some ⟨b, 0, none⟩), .int .i64 d] w fun e w' => e = .returned (.int .i64 (wrap64 (n + d))) ∧ CountAt w' b (wrap64 (n + d)) ∧ Only b w w' := by
  have hs := Lib.hid (h.set (wrap64 (n + d)))
  have hc := h.cell
  have hz := h.free
  clear h
  go_enter Try.func17, Try.ntmps17
  go_wp2_with (go_at_call 40; refine (int_add _ n d _ hc hz).mono ?_; rintro e w' ⟨rfl, rfl⟩)
  go_ret
  exact ⟨rfl, hs.out, (Only.refl _ _).setCell _ _⟩

theorem countNow (w : World) (b : Nat) (n : Int) (h : CountAt w b n) :
    Calls Try.prog 23 #[.pointer (some ⟨b, 0, none⟩)] w fun e w' => e = .returned (.int .i64 n) ∧ w = w' := by
  have hc := h.cell
  clear h
  go_enter Try.func23, Try.ntmps23
  go_wp2_with (go_at_call 49; refine (int_load _ n _ hc).mono ?_; rintro e w' ⟨rfl, rfl⟩)
  go_ret
  exact ⟨rfl, rfl⟩

theorem most1 (w : World) (p : Addr) (m n : Int) (h : w.cell? p = some (.int .i64 m)) :
    Calls Try.prog 42 #[.int .i64 n, .pointer (some p)] w fun e w' => e = .returned (.tuple #[.int .i64 m, .bool (decide (n < m))]) ∧ ∃ k, w' = w.drewN k := by
  go_enter Try.func42, Try.ntmps42
  go_wp2
  go_quiet (fail)
  go_wp2
  go_ret2
  exact ⟨rfl, _, rfl⟩

theorem take1 (w : World) (p : Addr) (m n : Int) (h : w.cell? p = some (.int .i64 m)) :
    Calls Try.prog 43 #[.int .i64 n, .pointer (some p)] w fun e w' => e = .returned (.tuple #[.int .i64 (wrap64 (n + 1)), .bool (decide (n < m))]) ∧ ∃ k, w' = w.drewN k := by
  go_enter Try.func43, Try.ntmps43
  go_wp2
  go_quiet (fail)
  go_wp2
  go_ret2
  exact ⟨rfl, _, rfl⟩

theorem nil_now (w : World) : Calls Try.prog 23 #[.pointer none] w fun e w' => e = .returned (.int .i64 0) ∧ w = w' := by
  go_enter Try.func23, Try.ntmps23
  go_wp2
  go_ret
  exact ⟨rfl, rfl⟩
theorem nil_add (w : World) (d : Int) : Calls Try.prog 17 #[.pointer none, .int .i64 d] w fun e w' => e = .returned (.int .i64 0) ∧ w = w' := by
  go_enter Try.func17, Try.ntmps17
  go_wp2
  go_ret
  exact ⟨rfl, rfl⟩
theorem nil_raise (w : World) (f : Value) : Calls Try.prog 41 #[.pointer none, f] w fun e w' => e = .returned (.tuple #[.int .i64 0, .bool false]) ∧ w = w' := by
  go_enter Try.func41, Try.ntmps41
  go_wp2
  go_ret2
  exact ⟨rfl, rfl⟩

/-- a call of a function that has a body enters it -/
theorem enters {f : FuncId} {fn : Func} {c : Code} (hf : Try.prog.funcs[f]? = some fn) (hname : (fn.name == "runtime.NumGoroutine") = false) (hb : fn.body = some c) (args : Array Value) (w : World) :
    (callFunc f args).run Try.prog w = .ok (.enter f args) w := by
  have h1 : fn.name ≠ "runtime.NumGoroutine" := by simpa using hname
  simp [callFunc, hf, h1, hb]

theorem CountAt.drewN {w : World} {b : Nat} {n : Int} (h : CountAt w b n) (k : Nat) : CountAt (w.drewN k) b n := h
theorem CountAt.alloc {w : World} {b : Nat} {n : Int} (h : CountAt w b n) (o : Obj) : CountAt (w.alloc o) b n := old_alloc h o
theorem CountAt.lt {w : World} {b : Nat} {n : Int} (h : CountAt w b n) : b < w.heap.size := lt_of_block h
theorem CountAt.below {w w' : World} {b : Nat} {n : Int} (h : CountAt w b n) (hb : Below w.heap.size w w') : CountAt w' b n := old_below h hb
theorem CountAt.only {w w' : World} {b k : Nat} {n : Int} (h : CountAt w b n) (hb : Only k w w') (hk : b ≠ k) : CountAt w' b n := hb.keep h hk

set_option maxRecDepth 100000 in
theorem raise_yes (f : Nat) (hin : ∀ args w, (callFunc f args).run Try.prog w = .ok (.enter f args) w) (w : World) (p : Addr) (b : Nat) (n x : Int) (h : CountAt w b n)
    (H : Calls Try.prog f #[.int .i64 n, .pointer (some p)] w fun e w' => e = .returned (.tuple #[.int .i64 x, .bool true]) ∧ ∃ k, w' = w.drewN k) :
    Calls Try.prog 41 #[.pointer (some ⟨b, 0, none⟩), .func (.func f) #[] #[.pointer (some p)]] w fun e w' => e = .returned (.tuple #[.int .i64 x, .bool true]) ∧ CountAt w' b x ∧ Only b w w' := by
  have HH := Lib.hid H
  have HC := Lib.hid h
  clear H h
  go_enter Try.func41, Try.ntmps41
  go_wp2
  go_loopw [] (fun wr => wr = w) (fun _ => 0)
  case atStart => rfl
  case round =>
    subst hrel
    go_wp2_with (go_at_call 23; refine (countNow _ b n HC.out).mono ?_; rintro e w' ⟨rfl, rfl⟩)
    refine HH.out.mono ?_
    rintro e w' ⟨rfl, k, rfl⟩
    go_wp2_with (go_at_call 55; refine (int_cas ⟨b, 0, none⟩ n x _ (HC.out.drewN k).cell (HC.out.drewN k).free).mono ?_; rintro e w' ⟨rfl, rfl⟩)
    go_ret2
    exact ⟨rfl, (HC.out.drewN k).set x, ((Only.refl _ _).drewN k).setCell _ _⟩

set_option maxRecDepth 100000 in
theorem raise_no (f : Nat) (hin : ∀ args w, (callFunc f args).run Try.prog w = .ok (.enter f args) w) (w : World) (p : Addr) (b : Nat) (n x : Int) (h : CountAt w b n)
    (H : Calls Try.prog f #[.int .i64 n, .pointer (some p)] w fun e w' => e = .returned (.tuple #[.int .i64 x, .bool false]) ∧ ∃ k, w' = w.drewN k) :
    Calls Try.prog 41 #[.pointer (some ⟨b, 0, none⟩), .func (.func f) #[] #[.pointer (some p)]] w fun e w' => e = .returned (.tuple #[.int .i64 n, .bool false]) ∧ CountAt w' b n ∧ Only b w w' := by
  have HH := Lib.hid H
  have HC := Lib.hid h
  clear H h
  go_enter Try.func41, Try.ntmps41
  go_wp2
  go_loopw [] (fun wr => wr = w) (fun _ => 0)
  case atStart => rfl
  case round =>
    subst hrel
    go_wp2_with (go_at_call 23; refine (countNow _ b n HC.out).mono ?_; rintro e w' ⟨rfl, rfl⟩)
    refine HH.out.mono ?_
    rintro e w' ⟨rfl, k, rfl⟩
    go_wp2
    go_ret2
    exact ⟨rfl, HC.out.drewN k, (Only.refl _ _).drewN k⟩

theorem enters_most1 : ∀ args w, (callFunc 42 args).run Try.prog w = .ok (.enter 42 args) w := fun args w => enters Try.func42 (by kernel_rfl) rfl args w
theorem enters_take1 : ∀ args w, (callFunc 43 args).run Try.prog w = .ok (.enter 43 args) w := fun args w => enters Try.func43 (by kernel_rfl) rfl args w

theorem box_cell (w : World) (v : Value) (t : TypeId) : (w.alloc (.cells #[v] t)).cell? ⟨w.heap.size, 0, none⟩ = some v := by rw [cell_at (new_at w _ _)]; rfl
theorem Only.boxed {b : Nat} {w w' : World} {o : Obj} (h : Only b (w.alloc o) w') : Only b w w' := ((Only.refl b w).alloc o).trans h

theorem countMost (w : World) (b : Nat) (n m : Int) (h : CountAt w b n) :
    Calls Try.prog 18 #[.pointer (some ⟨b, 0, none⟩), .int .i64 m] w fun e w' => e = .returned (.int .i64 (max n m)) ∧ CountAt w' b (max n m) ∧ Only b w w' := by
  by_cases hm : n < m
  · have H := most1 (w.alloc (.cells #[.int .i64 m] 3)) ⟨w.heap.size, 0, none⟩ m n (box_cell _ _ _)
    rw [decide_eq_true hm] at H
    have R := Lib.hid (raise_yes 42 enters_most1 _ _ b n m (h.alloc _) H)
    have e1 : max n m = m := by omega
    rw [e1]
    clear H h e1 hm
    go_enter Try.func18, Try.ntmps18
    go_wp2_with (go_at_call 41; refine R.out.mono ?_; rintro e w' ⟨rfl, hc', ho⟩)
    go_ret
    exact ⟨rfl, hc', ho.boxed⟩
  · have H := most1 (w.alloc (.cells #[.int .i64 m] 3)) ⟨w.heap.size, 0, none⟩ m n (box_cell _ _ _)
    rw [decide_eq_false hm] at H
    have R := Lib.hid (raise_no 42 enters_most1 _ _ b n m (h.alloc _) H)
    have e1 : max n m = n := by omega
    rw [e1]
    clear H h e1 hm
    go_enter Try.func18, Try.ntmps18
    go_wp2_with (go_at_call 41; refine R.out.mono ?_; rintro e w' ⟨rfl, hc', ho⟩)
    go_ret
    exact ⟨rfl, hc', ho.boxed⟩

/-- Take, where there is room -/
theorem take_yes (w : World) (b : Nat) (n m : Int) (h : CountAt w b n) (hm : n < m) :
    Calls Try.prog 19 #[.pointer (some ⟨b, 0, none⟩), .int .i64 m] w fun e w' => e = .returned (.bool true) ∧ CountAt w' b (wrap64 (n + 1)) ∧ Only b w w' := by
  have H := take1 (w.alloc (.cells #[.int .i64 m] 3)) ⟨w.heap.size, 0, none⟩ m n (box_cell _ _ _)
  rw [decide_eq_true hm] at H
  have R := Lib.hid (raise_yes 43 enters_take1 _ _ b n _ (h.alloc _) H)
  clear H h hm
  go_enter Try.func19, Try.ntmps19
  go_wp2_with (go_at_call 41; refine R.out.mono ?_; rintro e w' ⟨rfl, hc', ho⟩)
  go_ret
  exact ⟨rfl, hc', ho.boxed⟩
/-- Take, where there is none -/
theorem take_no (w : World) (b : Nat) (n m : Int) (h : CountAt w b n) (hm : ¬ n < m) :
    Calls Try.prog 19 #[.pointer (some ⟨b, 0, none⟩), .int .i64 m] w fun e w' => e = .returned (.bool false) ∧ CountAt w' b n ∧ Only b w w' := by
  have H := take1 (w.alloc (.cells #[.int .i64 m] 3)) ⟨w.heap.size, 0, none⟩ m n (box_cell _ _ _)
  rw [decide_eq_false hm] at H
  have R := Lib.hid (raise_no 43 enters_take1 _ _ b n _ (h.alloc _) H)
  clear H h hm
  go_enter Try.func19, Try.ntmps19
  go_wp2_with (go_at_call 41; refine R.out.mono ?_; rintro e w' ⟨rfl, hc', ho⟩)
  go_ret
  exact ⟨rfl, hc', ho.boxed⟩

theorem nil_most (w : World) (m : Int) : Calls Try.prog 18 #[.pointer none, .int .i64 m] w fun e w' => e = .returned (.int .i64 0) ∧ Below w.heap.size w w' := by
  have R := fun w' f => Lib.hid (nil_raise w' f)
  go_enter Try.func18, Try.ntmps18
  go_wp2_with (go_at_call 41; refine (R _ _).out.mono ?_; rintro e w' ⟨rfl, rfl⟩)
  go_ret
  exact ⟨rfl, below_new _ _⟩
theorem nil_take (w : World) (m : Int) : Calls Try.prog 19 #[.pointer none, .int .i64 m] w fun e w' => e = .returned (.bool false) ∧ Below w.heap.size w w' := by
  have R := fun w' f => Lib.hid (nil_raise w' f)
  go_enter Try.func19, Try.ntmps19
  go_wp2_with (go_at_call 41; refine (R _ _).out.mono ?_; rintro e w' ⟨rfl, rfl⟩)
  go_ret
  exact ⟨rfl, below_new _ _⟩

end Go.Proofs.Ytalgbimclagdjaa.P3
