/-
  A page asked for: package big's ask, which recovers.
-/
import Derived.Test.YtpbaodjmkdcihaaN4
import Derived.Defers
import Derived.Recover
import Derived.Laws.Pointers
import Derived.Laws.ResultCell
import Derived.Laws.Rows
namespace Go.Proofs.Ytpbaodjmkdcihaa.P11
open Go Go.RowKit Go.Lib Go.Proofs.Ytpbaodjmkdcihaa.PK

set_option maxRecDepth 100000 in
theorem ask_idle (p q : Addr) (w : World) :
    CallsD Try.prog 38 #[.pointer (some p), .pointer (some q)] .returning w fun e u' w' => e = .returned (.tuple #[]) ∧ u' = .returning ∧ w' = w := by
  refine callsD_of_wpS Try.func38 rfl fun c₀ cs hu => ?_
  apply wpS_seq
  apply wpS_region
  simp [wpOpsS, go_sem, recoverD, hu, Try.ntmps38, Exit.thenS]
  refine wpS_cond (t := false) (by simp [Act.eval, Array.replicate]) ?_
  simp only [Bool.false_eq_true, if_false]
  refine wpS_of_wp (wp_skip ?_)
  cases c₀
  simp_all [bodyPostS, results, Try.results38]

theorem two_blocks {w w2 : World} {A B : Array Value} {s t : TypeId} (hb : Below ((w.alloc (.cells A s)).alloc (.cells B t)).heap.size ((w.alloc (.cells A s)).alloc (.cells B t)) w2) :
    w2.heap[w.heap.size]? = some (.cells A s (0, 0)) ∧ w2.heap[w.heap.size + 1]? = some (.cells B t (0, 0)) := by
  constructor
  · rw [hb.block w.heap.size (by simp; omega), Lib.alloc_old _ _ _ (by simp)]
    exact new_at w A s
  · have e : w.heap.size + 1 = (w.alloc (.cells A s)).heap.size := by simp
    rw [hb.block (w.heap.size + 1) (by simp), e]
    exact new_at _ B t

theorem two_results {fn : Func} {q u : Tmp} (h : fn.results = #[.cell q 33, .cell u 24]) (tmps : Array Value) (w : World) (a b : Nat) (cs : Array Value) (x : Int) (hq : tmps.getD q undef = .pointer (some ⟨a, 0, none⟩)) (hu : tmps.getD u undef = .pointer (some ⟨b, 0, none⟩))
    (hc : w.heap[a]? = some (.cells cs 33 (0, 0))) (hs : cs.size = 4) (hx : w.heap[b]? = some (.cells #[.int .i64 x] 24 (0, 0))) :
    (results fn tmps).run Try.prog w = .ok (.tuple #[.agg cs, .int .i64 x]) w := by
  have hi : (Try.prog.info? 33).map (·.size) = some cs.size := by rw [hs]; kernel_rfl
  have e0 : (results fn tmps).run Try.prog w = ((asAddr (tmps.getD q undef)).run Try.prog w).andThen fun a w₁ => ((loadVar 33 a).run Try.prog w₁).andThen fun v w₂ => ((asAddr (tmps.getD u undef)).run Try.prog w₂).andThen fun b w₃ => ((loadVar 24 b).run Try.prog w₃).andThen fun y w₄ => .ok (.tuple #[v, y]) w₄ := by
    simp only [results, h]
    simp [Sem.run_bind, Result.andThen]
  have e1 : (asAddr (.pointer (some ⟨a, 0, none⟩))).run Try.prog w = .ok ⟨a, 0, none⟩ w := rfl
  have e2 : (asAddr (.pointer (some ⟨b, 0, none⟩))).run Try.prog w = .ok ⟨b, 0, none⟩ w := rfl
  have hcell : w.cell? ⟨b, 0, none⟩ = some (.int .i64 x) := by rw [cell_at hx]; rfl
  have e3 : (loadVar 24 ⟨b, 0, none⟩).run Try.prog w = .ok (.int .i64 x) w := by
    simp [go_sem, loadVar, hcell]
  rw [e0, hq, e1, Result.andThen_ok, run_loadVar_row (P := Try.prog) w a 33 33 cs (0, 0) _ hc Try.underlying33 rfl hi, Result.andThen_ok, hu, e2, Result.andThen_ok, e3]
  rfl

theorem ask_left {w w2 : World} {k pid tx pe : Int} {body : ByteArray} {a b c d z : Value} (q1 : w2.heap[w.heap.size]? = some (.cells #[a, b, c, d] 33 (0, 0))) (q2 : w2.heap[w.heap.size + 1]? = some (.cells #[z] 24 (0, 0))) (hB : Below w.heap.size w w2) :
    let W := (((((w2.setCell ⟨w.heap.size, 0, none⟩ (.int .i64 k)).setCell ⟨w.heap.size, 1, none⟩ (.int .i64 pid)).setCell ⟨w.heap.size, 2, none⟩ (.int .i64 tx)).setCell ⟨w.heap.size, 3, none⟩ (.string body)).setCell ⟨w.heap.size + 1, 0, none⟩ (.int .i64 pe))
    W.heap[w.heap.size]? = some (.cells #[.int .i64 k, .int .i64 pid, .int .i64 tx, .string body] 33 (0, 0)) ∧ W.heap[w.heap.size + 1]? = some (.cells #[.int .i64 pe] 24 (0, 0)) ∧ Below w.heap.size w W := by
  intro W
  have s1 := set_at (set_at (set_at (set_at q1 0 (.int .i64 k)) 1 (.int .i64 pid)) 2 (.int .i64 tx)) 3 (.string body)
  have o1 : ∀ (V : World) (j : Nat) (v : Value), (V.setCell ⟨w.heap.size, j, none⟩ v).heap[w.heap.size + 1]? = V.heap[w.heap.size + 1]? := fun V j v => Below.heap_setCell _ _ _ _ (by simp)
  refine ⟨?_, ?_, ?_⟩
  · exact (Below.heap_setCell _ ⟨w.heap.size + 1, 0, none⟩ _ _ (by simp)).trans s1
  · refine set_at (c := #[z]) ?_ 0 _
    rw [o1, o1, o1, o1]
    exact q2
  · exact ((((hB.setCell (p := ⟨w.heap.size, 0, none⟩) (Nat.le_refl _) _).setCell (p := ⟨w.heap.size, 1, none⟩) (Nat.le_refl _) _).setCell (p := ⟨w.heap.size, 2, none⟩) (Nat.le_refl _) _).setCell (p := ⟨w.heap.size, 3, none⟩) (Nat.le_refl _) _).setCell (p := ⟨w.heap.size + 1, 0, none⟩) (Nat.le_succ _) _

set_option maxRecDepth 100000 in
set_option maxHeartbeats 2000000 in
theorem ask_any (w : World) (bl bo : Nat) (id : Int) (P : Pg) (pe : Int)
    (hg : ∀ W, Below w.heap.size w W → Calls Try.prog 14 #[.int .i64 id, .pointer (some ⟨bl, 0, none⟩), .pointer (some ⟨bo, 0, none⟩)] W fun e w' => e = .returned (.tuple #[P.v, .int .i64 pe]) ∧ Below W.heap.size W w') :
    Calls Try.prog 28 #[.func (.func 14) #[] #[.pointer (some ⟨bl, 0, none⟩), .pointer (some ⟨bo, 0, none⟩)], .int .i64 id] w fun e w' => e = .returned (.tuple #[P.v, .int .i64 pe]) ∧ Below w.heap.size w w' := by
  have hmf : ∀ (fn : Fn) (first cap : Array Value) (w : World), (Instr.makeFunc fn first cap).run Try.prog w = .ok (.func fn first cap) w := fun _ _ _ _ => rfl
  have HG := Lib.hid hg
  obtain ⟨k, pid, tx, body⟩ := P
  unfold Pg.v at HG
  simp only at HG
  clear hg
  go_enter_defers Try.func28, Try.ntmps28
  have HA : Hid (Below w.heap.size w ((w.alloc (.cells #[.int .i64 0, .int .i64 0, .int .i64 0, .string ⟨#[]⟩] 33)).alloc (.cells #[.int .i64 0] 24))) := grow (below_new w _) _
  go_wp2_with (first
    | (go_at_call 14; (with_reducible refine (HG.out _ HA.out).mono ?_); rintro e w2 ⟨rfl, hb⟩; obtain ⟨q1, q2⟩ := two_blocks hb; have B2 := Lib.hid (thenBelow HA.out hb); have c0 := cell_at q1 0; have c1 := cell_at q1 1; have c2 := cell_at q1 2; have c3 := cell_at q1 3; have f0 := free_at q1 0; have f1 := free_at q1 1; have f2 := free_at q1 2; have f3 := free_at q1 3; have d0 := cell_at q2 0; have g0 := free_at q2 0; clear hb))
  refine leaves_cons (f := 38) (args := #[.pointer (some ⟨w.heap.size, 0, none⟩), .pointer (some ⟨w.heap.size + 1, 0, none⟩)]) (by simp) (by simp [go_sem]) ?_
  refine (ask_idle ⟨w.heap.size, 0, none⟩ ⟨w.heap.size + 1, 0, none⟩ _).mono ?_
  rintro e u' w'' ⟨rfl, rfl, rfl⟩
  obtain ⟨z1, z2, z3⟩ := ask_left (k := k) (pid := pid) (tx := tx) (pe := pe) (body := body) q1 q2 B2.out
  exact ⟨_, two_results rfl _ _ w.heap.size (w.heap.size + 1) _ pe rfl rfl z1 rfl z2, rfl, z3⟩

end Go.Proofs.Ytpbaodjmkdcihaa.P11
