/-
  Texts of the proof of SaidKeeps8, side by side: Base3, Ct8, Dk0.
-/
import Derived.Test.YtbkngnjkaledlaaGreatRows
import Derived.WalkKit
import Derived.BigQuiet
import Derived.Deep.QuietTactic
import Derived.Deep.OwnRows
import Derived.Outline
import Derived.WalkSpells
import Derived.IntWalk
import Derived.Lib.Builder
import Derived.Lib.SliceRun
import Derived.Lib.Hide
import Derived.Tactics
import Derived.Tactics2
import Derived.Defers
import Derived.Laws.Pointers
import Derived.Laws.LoneSync
import Derived.RegionTactic
import Derived.RegionCalls
import Derived.ChangeAlike
/-
  Plain words for objects that are one block each: which blocks may change, which stay. No program.
-/
namespace Go.Proofs.YtbkngnjkaledlaaGreat.P3
open Go Go.RowKit Go.Lib

theorem lt_of_block {w : World} {b : Nat} {o : Obj} (h : w.heap[b]? = some o) : b < w.heap.size := (Array.getElem?_eq_some_iff.1 h).1
theorem cell_at {w : World} {b : Nat} {c : Array Value} {t : TypeId} (h : w.heap[b]? = some (.cells c t (0, 0))) (j : Nat) : w.cell? ⟨b, j, none⟩ = c[j]? := by
  simp [World.cell?, h]
theorem free_at {w : World} {b : Nat} {c : Array Value} {t : TypeId} (h : w.heap[b]? = some (.cells c t (0, 0))) (j : Nat) : w.frozen? ⟨b, j, none⟩ = false := by
  simp [World.frozen?, h]
theorem set_at {w : World} {b : Nat} {c : Array Value} {t : TypeId} (h : w.heap[b]? = some (.cells c t (0, 0))) (j : Nat) (u : Value) : (w.setCell ⟨b, j, none⟩ u).heap[b]? = some (.cells (c.setIfInBounds j u) t (0, 0)) := by
  simp only [World.setCell, Array.getElem?_modify]; rw [h]; rfl
theorem new_at (w : World) (c : Array Value) (t : TypeId) : (w.alloc (.cells c t)).heap[w.heap.size]? = some (.cells c t (0, 0)) := heap_alloc_new w _
theorem old_alloc {w : World} {b : Nat} {x : Obj} (h : w.heap[b]? = some x) (o : Obj) : (w.alloc o).heap[b]? = some x := by
  rw [Below.heap_alloc _ _ _ (lt_of_block h)]; exact h
theorem old_set {w : World} {b : Nat} {x : Obj} (h : w.heap[b]? = some x) (a : Addr) (ha : b ≠ a.block) (u : Value) : (w.setCell a u).heap[b]? = some x := by
  rw [Below.heap_setCell _ _ _ _ ha]; exact h
theorem below_new (w : World) (o : Obj) : Below w.heap.size w (w.alloc o) := (Below.refl _ w).alloc (Nat.le_refl _) o
theorem old_below {w w' : World} {b : Nat} {x : Obj} (h : w.heap[b]? = some x) (hb : Below w.heap.size w w') : w'.heap[b]? = some x := by
  rw [hb.block b (lt_of_block h)]; exact h
theorem grow {a w : World} (h : Below a.heap.size a w) (o : Obj) : Below a.heap.size a (w.alloc o) := h.alloc h.size o
theorem thenBelow {a w w' : World} (h : Below a.heap.size a w) (k : Below w.heap.size w w') : Below a.heap.size a w' := h.trans (k.mono h.size)

theorem run_equalIn_func_nil {P : Program} (w : World) (d : Nat) (t : TypeId) {ps rs : Array TypeId} {va : Bool} (fn : Fn) (fi ca : Array Value) (h : P.underlying t = some (.func ps rs va)) :
    (Op.equalIn (d + 1) t (.func fn fi ca) .nilFunc).run P w = .ok false w := by
  simp [Op.equalIn, run_underlying h]
theorem run_equalIn_nil_nil {P : Program} (w : World) (d : Nat) (t : TypeId) {ps rs : Array TypeId} {va : Bool} (h : P.underlying t = some (.func ps rs va)) :
    (Op.equalIn (d + 1) t .nilFunc .nilFunc).run P w = .ok true w := by
  simp [Op.equalIn, run_underlying h]
/-- 'f == nil' -/
theorem run_eql_func_nil {P : Program} (w : World) (t : TypeId) {ps rs : Array TypeId} {va : Bool} (fn : Fn) (fi ca : Array Value) (h : P.underlying t = some (.func ps rs va)) :
    (binOp .eql t (.func fn fi ca) .nilFunc).run P w = .ok (.bool false) w := by
  simp only [binOp]
  simp [Op.equal, Op.maxDepth, run_equalIn_func_nil w 9999 t fn fi ca h]
theorem run_eql_nil_nil {P : Program} (w : World) (t : TypeId) {ps rs : Array TypeId} {va : Bool} (h : P.underlying t = some (.func ps rs va)) :
    (binOp .eql t .nilFunc .nilFunc).run P w = .ok (.bool true) w := by
  simp only [binOp]
  simp [Op.equal, Op.maxDepth, run_equalIn_nil_nil w 9999 t h]

/-- of the blocks that were there only block b may have changed -/
structure Only (b : Nat) (w w' : World) : Prop where
  os : w'.os = w.os
  tape : w'.tape = w.tape
  output : w'.output = w.output
  size : w.heap.size ≤ w'.heap.size
  block : ∀ k, k < w.heap.size → k ≠ b → w'.heap[k]? = w.heap[k]?

theorem Only.refl (b : Nat) (w : World) : Only b w w := ⟨rfl, rfl, rfl, Nat.le_refl _, fun _ _ _ => rfl⟩
theorem Only.trans {b : Nat} {a w w' : World} (h : Only b a w) (k : Only b w w') : Only b a w' :=
  ⟨k.os.trans h.os, k.tape.trans h.tape, k.output.trans h.output, Nat.le_trans h.size k.size, fun i hi hb => (k.block i (Nat.lt_of_lt_of_le hi h.size) hb).trans (h.block i hi hb)⟩
theorem Only.of {b : Nat} {w w' : World} (h : Below w.heap.size w w') : Only b w w' := ⟨h.os, h.tape, h.output, h.size, fun k hk _ => h.block k hk⟩
theorem Only.alloc {b : Nat} {a w : World} (h : Only b a w) (o : Obj) : Only b a (w.alloc o) := h.trans (.of (below_new w o))
theorem Only.drew {b : Nat} {a w : World} (h : Only b a w) : Only b a w.drew := ⟨h.os, h.tape, h.output, h.size, h.block⟩
theorem Only.drewN {b : Nat} {a w : World} (h : Only b a w) (n : Nat) : Only b a (w.drewN n) := by
  have k : Below w.heap.size w (w.drewN n) := by
    induction n generalizing w with
    | zero => exact Below.refl _ _
    | succ n ih => first | exact (ih h).drew | exact ((Below.refl _ w).drew).trans (ih h.drew)
  exact h.trans (.of k)
theorem Only.setCell {b : Nat} {a w : World} (h : Only b a w) (j : Nat) (u : Value) : Only b a (w.setCell ⟨b, j, none⟩ u) :=
  h.trans ⟨rfl, rfl, rfl, by simp [World.setCell], fun k _ hk => Below.heap_setCell _ _ _ _ hk⟩
theorem Only.keep {b k : Nat} {w w' : World} {x : Obj} (h : Only b w w') (hx : w.heap[k]? = some x) (hk : k ≠ b) : w'.heap[k]? = some x := by
  rw [h.block k (lt_of_block hx) hk]; exact hx
theorem Only.new {b : Nat} {a w w' : World} (h : Below a.heap.size a w) (k : Only b w w') (hb : a.heap.size ≤ b) : Below a.heap.size a w' :=
  h.trans ⟨k.os, k.tape, k.output, k.size, fun i hi => k.block i (Nat.lt_of_lt_of_le hi h.size) (by omega)⟩
theorem below_drewN (w : World) (n : Nat) : Below w.heap.size w (w.drewN n) := by
  induction n generalizing w with
  | zero => exact Below.refl _ _
  | succ n ih => first | exact (ih w).drew | exact ((Below.refl _ w).drew).trans (ih w.drew)

/-- of the blocks that were there only those of S may have changed -/
structure Fr (S : Nat → Prop) (w w' : World) : Prop where
  os : w'.os = w.os
  tape : w'.tape = w.tape
  output : w'.output = w.output
  size : w.heap.size ≤ w'.heap.size
  block : ∀ k, k < w.heap.size → ¬ S k → w'.heap[k]? = w.heap[k]?
theorem Fr.refl (S : Nat → Prop) (w : World) : Fr S w w := ⟨rfl, rfl, rfl, Nat.le_refl _, fun _ _ _ => rfl⟩
theorem Fr.trans {S : Nat → Prop} {a w w' : World} (h : Fr S a w) (k : Fr S w w') : Fr S a w' :=
  ⟨k.os.trans h.os, k.tape.trans h.tape, k.output.trans h.output, Nat.le_trans h.size k.size, fun i hi hb => (k.block i (Nat.lt_of_lt_of_le hi h.size) hb).trans (h.block i hi hb)⟩
theorem Fr.mono {S T : Nat → Prop} {w w' : World} (h : Fr S w w') (hs : ∀ k, k < w.heap.size → S k → T k) : Fr T w w' :=
  ⟨h.os, h.tape, h.output, h.size, fun k hk hn => h.block k hk (fun hs' => hn (hs k hk hs'))⟩
theorem Fr.of {S : Nat → Prop} {w w' : World} (h : Below w.heap.size w w') : Fr S w w' := ⟨h.os, h.tape, h.output, h.size, fun k hk _ => h.block k hk⟩
theorem Fr.only {S : Nat → Prop} {b : Nat} {w w' : World} (h : Only b w w') (hs : S b) : Fr S w w' := ⟨h.os, h.tape, h.output, h.size, fun k hk hn => h.block k hk (fun e => hn (e ▸ hs))⟩
theorem Fr.to {b : Nat} {w w' : World} (h : Fr (· = b) w w') : Only b w w' := ⟨h.os, h.tape, h.output, h.size, h.block⟩
theorem Fr.keep {S : Nat → Prop} {k : Nat} {w w' : World} {x : Obj} (h : Fr S w w') (hx : w.heap[k]? = some x) (hk : ¬ S k) : w'.heap[k]? = some x := by
  rw [h.block k (lt_of_block hx) hk]; exact hx
theorem Fr.new {S : Nat → Prop} {a w w' : World} (h : Below a.heap.size a w) (k : Fr S w w') (hb : ∀ i, S i → a.heap.size ≤ i) : Below a.heap.size a w' :=
  h.trans ⟨k.os, k.tape, k.output, k.size, fun i hi => k.block i (Nat.lt_of_lt_of_le hi h.size) (fun hs => by have := hb i hs; omega)⟩
theorem Fr.below {w w' : World} (h : Fr (fun _ => False) w w') : Below w.heap.size w w' := ⟨h.os, h.tape, h.output, h.size, fun k hk => h.block k hk id⟩

end Go.Proofs.YtbkngnjkaledlaaGreat.P3

/-
  Package once's Count, wherever it stands: Add and Now.
-/
namespace Go.Proofs.YtbkngnjkaledlaaGreat.P8
open Go Go.RowKit Go.Lib Go.Proofs.YtbkngnjkaledlaaGreat.P3

theorem int_load (a : Addr) (n : Int) (w : World) (hc : w.cell? a = some (.int .i64 n)) :
    Calls Tryz.prog 110 #[.pointer (some a)] w fun e w' => e = .returned (.int .i64 n) ∧ w = w' := by
  have hl := run_call_load (P := Tryz.prog) Tryz.func141 (by kernel_rfl) (by kernel_rfl) (by kernel_rfl) .i64 (by kernel_rfl) hc
  go_enter Tryz.func110, Tryz.ntmps110
  go_wp2
  go_ret
  exact ⟨rfl, rfl⟩
theorem int_add (a : Addr) (n d : Int) (w : World) (hc : w.cell? a = some (.int .i64 n)) (hz : w.frozen? a = false) :
    Calls Tryz.prog 106 #[.pointer (some a), .int .i64 d] w fun e w' => e = .returned (.int .i64 (wrap64 (n + d))) ∧ w' = w.setCell a (.int .i64 (wrap64 (n + d))) := by
  have hadd := run_call_add (P := Tryz.prog) Tryz.func139 (by kernel_rfl) (by kernel_rfl) (by kernel_rfl) .i64 (by kernel_rfl) (y := d) (s := wrap64 (n + d)) hc hz (by simp [go_sem, wrap64, IntKind.wrap_i64])
  go_enter Tryz.func106, Tryz.ntmps106
  go_wp2
  go_ret
  exact ⟨rfl, rfl⟩
theorem ct_add (w : World) (p : Addr) (n d : Int) (hc : w.cell? p = some (.int .i64 n)) (hz : w.frozen? p = false) :
    Calls Tryz.prog 68 #[.pointer (some p), .int .i64 d] w fun e w' => e = .returned (.int .i64 (wrap64 (n + d))) ∧ w' = w.setCell p (.int .i64 (wrap64 (n + d))) := by
  go_enter Tryz.func68, Tryz.ntmps68
  go_wp2_with (go_at_call 106; refine (int_add _ n d _ hc hz).mono ?_; rintro e w' ⟨rfl, rfl⟩)
  go_ret
  exact ⟨rfl, rfl⟩
theorem ct_now (w : World) (p : Addr) (n : Int) (hc : w.cell? p = some (.int .i64 n)) :
    Calls Tryz.prog 72 #[.pointer (some p)] w fun e w' => e = .returned (.int .i64 n) ∧ w = w' := by
  go_enter Tryz.func72, Tryz.ntmps72
  go_wp2_with (go_at_call 110; refine (int_load _ n _ hc).mono ?_; rintro e w' ⟨rfl, rfl⟩)
  go_ret
  exact ⟨rfl, rfl⟩
end Go.Proofs.YtbkngnjkaledlaaGreat.P8

/-
  Package disk: lists of writes, sectors, files, as they stand in memory. (Disk, part 0.)
-/
namespace Go.Proofs.YtbkngnjkaledlaaGreat.P4
open Go Go.RowKit Go.Lib Go.Proofs.YtbkngnjkaledlaaGreat.P3

/-- a pointer to a block's first cell, or nil -/
def ptr : Option Nat → Value
  | none => .pointer none
  | some b => .pointer (some ⟨b, 0, none⟩)
theorem ptr_none : ptr none = .pointer none := rfl
theorem ptr_some (b : Nat) : ptr (some b) = .pointer (some ⟨b, 0, none⟩) := rfl

/-- a write that is not safe: its block; what it is -/
structure Wr where
  b : Nat
  turn : Nat
  pos : Nat
  data : ByteArray
  kept : Nat
  under : Option Nat

def Wr.cells (x : Wr) (a h : Option Nat) : Array Value := #[.int .i64 x.turn, .int .i64 x.pos, .string x.data, .int .i64 x.kept, ptr a, ptr h, ptr x.under]
def WrAt (w : World) (x : Wr) (a h : Option Nat) : Prop := w.heap[x.b]? = some (.cells (x.cells a h) 123 (0, 0))

/-- the first one's block; n where there is none -/
def hd : List Wr → Option Nat → Option Nat
  | [], n => n
  | x :: _, _ => some x.b
/-- the last one's block; p where there is none -/
def lst : Option Nat → List Wr → Option Nat
  | p, [] => p
  | _, x :: r => lst (some x.b) r
/-- linked writes: p comes ahead of them, n behind them -/
def Seg (w : World) : Option Nat → List Wr → Option Nat → Prop
  | _, [], _ => True
  | p, x :: r, n => WrAt w x p (hd r n) ∧ Seg w (some x.b) r n

theorem hd_app (l r : List Wr) (n : Option Nat) : hd (l ++ r) n = hd l (hd r n) := by cases l <;> rfl
theorem lst_app : ∀ (l r : List Wr) (p : Option Nat), lst p (l ++ r) = lst (lst p l) r
  | [], _, _ => rfl
  | _ :: l, r, _ => lst_app l r _
theorem lst_snoc (l : List Wr) (x : Wr) (p : Option Nat) : lst p (l ++ [x]) = some x.b := by rw [lst_app]; rfl
theorem seg_app {w : World} : ∀ (l r : List Wr) (p n : Option Nat), Seg w p (l ++ r) n ↔ Seg w p l (hd r n) ∧ Seg w (lst p l) r n
  | [], r, p, n => by simp [Seg, lst]
  | x :: l, r, p, n => by
    simp only [List.cons_append, Seg, lst]
    rw [seg_app l r (some x.b) n, hd_app, and_assoc]
theorem seg_keep {w w' : World} : ∀ {l : List Wr} {p n : Option Nat}, Seg w p l n → (∀ x ∈ l, w'.heap[x.b]? = w.heap[x.b]?) → Seg w' p l n
  | [], _, _, _, _ => trivial
  | x :: r, p, n, h, hk => by
    refine ⟨?_, seg_keep h.2 (fun y hy => hk y (List.mem_cons_of_mem _ hy))⟩
    unfold WrAt
    rw [hk x List.mem_cons_self]
    exact h.1
theorem seg_mem {w : World} : ∀ {l : List Wr} {p n : Option Nat}, Seg w p l n → ∀ x ∈ l, ∃ a h, WrAt w x a h
  | [], _, _, _, x, hx => by simp at hx
  | y :: r, p, n, h, x, hx => by
    rcases List.mem_cons.1 hx with rfl | hx
    · exact ⟨_, _, h.1⟩
    · exact seg_mem h.2 x hx
theorem seg_lt {w : World} {l : List Wr} {p n : Option Nat} (h : Seg w p l n) : ∀ x ∈ l, x.b < w.heap.size := fun x hx => by
  obtain ⟨_, _, h⟩ := seg_mem h x hx
  exact lt_of_block h
/-- what comes behind the last one is another one -/
theorem seg_next {w : World} {l : List Wr} {x : Wr} {p n n' : Option Nat} (h : Seg w p (l ++ [x]) n) (hn : ∀ y ∈ l, y.b ≠ x.b) : Seg (w.setCell ⟨x.b, 5, none⟩ (ptr n')) p (l ++ [x]) n' := by
  rw [seg_app] at h ⊢
  refine ⟨seg_keep h.1 (fun y hy => Below.heap_setCell _ _ _ _ (hn y hy)), ?_, trivial⟩
  unfold WrAt
  rw [set_at h.2.1]
  rfl
/-- what comes ahead of the first one is another one -/
theorem seg_prev {w : World} {r : List Wr} {x : Wr} {p p' n : Option Nat} (h : Seg w p (x :: r) n) (hn : ∀ y ∈ r, y.b ≠ x.b) : Seg (w.setCell ⟨x.b, 4, none⟩ (ptr p')) p' (x :: r) n := by
  refine ⟨?_, seg_keep h.2 (fun y hy => Below.heap_setCell _ _ _ _ (hn y hy))⟩
  unfold WrAt
  rw [set_at h.1]
  rfl
/-- how much of one is kept -/
def Wr.keep (x : Wr) (k : Nat) : Wr := { x with kept := k }
theorem seg_kept {w : World} {l r : List Wr} {x : Wr} {p n : Option Nat} (h : Seg w p (l ++ x :: r) n) (hn : ∀ y ∈ l ++ r, y.b ≠ x.b) (k : Nat) : Seg (w.setCell ⟨x.b, 3, none⟩ (.int .i64 k)) p (l ++ x.keep k :: r) n := by
  rw [seg_app] at h ⊢
  refine ⟨seg_keep h.1 (fun y hy => Below.heap_setCell _ _ _ _ (hn y (by simp [hy]))), ?_, seg_keep h.2.2 (fun y hy => Below.heap_setCell _ _ _ _ (hn y (by simp [hy])))⟩
  unfold WrAt
  have := h.2.1
  unfold WrAt at this
  show (w.setCell ⟨x.b, 3, none⟩ _).heap[x.b]? = _
  rw [set_at this]
  rfl

/-- a sector: as it was written last; as it is safe; the last write of it that is not -/
structure Sec where
  now : ByteArray
  safe : ByteArray
  top : Option Nat
def Sec.cells (s : Sec) : List Value := [.string s.now, .string s.safe, ptr s.top]
def secsCells (l : List Sec) : List Value := l.flatMap Sec.cells
theorem secs_length (l : List Sec) : (secsCells l).length = l.length * 3 := by
  induction l with
  | nil => rfl
  | cons s r ih =>
    show (s.cells ++ secsCells r).length = _
    rw [List.length_append, ih, List.length_cons]
    simp [Sec.cells]
    omega
theorem secs_app (l r : List Sec) : secsCells (l ++ r) = secsCells l ++ secsCells r := by simp [secsCells]
theorem secs_at : ∀ (l : List Sec) (i : Nat) (s : Sec), l[i]? = some s → (secsCells l)[i * 3]? = some (.string s.now) ∧ (secsCells l)[i * 3 + 1]? = some (.string s.safe) ∧ (secsCells l)[i * 3 + 2]? = some (ptr s.top)
  | [], i, s, h => by simp at h
  | t :: r, 0, s, h => by
    obtain rfl : t = s := by simpa using h
    exact ⟨rfl, rfl, rfl⟩
  | t :: r, i + 1, s, h => by
    have := secs_at r i s (by simpa using h)
    have e : secsCells (t :: r) = .string t.now :: .string t.safe :: ptr t.top :: secsCells r := rfl
    rw [e, show (i + 1) * 3 = i * 3 + 1 + 1 + 1 by omega]
    simp only [List.getElem?_cons_succ]
    exact this
theorem secs_set : ∀ (l : List Sec) (i : Nat) (s : Sec), l[i]? = some s → ∀ t : Sec, secsCells (l.set i t) = (((secsCells l).set (i * 3) (.string t.now)).set (i * 3 + 1) (.string t.safe)).set (i * 3 + 2) (ptr t.top)
  | [], i, s, h, _ => by simp at h
  | u :: r, 0, s, h, t => rfl
  | u :: r, i + 1, s, h, t => by
    have := secs_set r i s (by simpa using h) t
    have e : ∀ (u : Sec) r, secsCells (u :: r) = .string u.now :: .string u.safe :: ptr u.top :: secsCells r := fun _ _ => rfl
    rw [List.set_cons_succ, e, e, this, show (i + 1) * 3 = i * 3 + 1 + 1 + 1 by omega]
    rfl

/-- a file: its block; the value of its row; sectors, how many are safe, whether it stays; its writes -/
structure Fl where
  b : Nat
  sl : Value
  secs : List Sec
  ns : Nat
  stays : Bool
  ws : List Wr

def Fl.cells (F : Fl) : Array Value := #[F.sl, .int .i64 F.ns, .bool F.stays, ptr (hd F.ws none), ptr (lst none F.ws), .int .i64 F.ws.length]
structure FileAt (w : World) (F : Fl) : Prop where
  blk : w.heap[F.b]? = some (.cells F.cells 148 (0, 0))
  row : w.ownsRow 0 143 3 F.sl F.secs.length (secsCells F.secs)
  seg : Seg w none F.ws none
  nodup : (F.ws.map (·.b)).Nodup

/-- the file's blocks -/
def Fl.foot (F : Fl) (k : Nat) : Prop := k = F.b ∨ F.sl.ownBlock = some k ∨ ∃ x ∈ F.ws, x.b = k

theorem owns_keep {w w' : World} {e : TypeId} {z n : Nat} {v : Value} {xs : List Value} (h : w.ownsRow 0 e z v n xs) (hk : ∀ g, v.ownBlock = some g → w'.heap[g]? = w.heap[g]?) : w'.ownsRow 0 e z v n xs := by
  refine ⟨h.1, ?_⟩
  rcases h.2 with h2 | ⟨g, cap, cur, rfl, h1, h2, h3⟩
  · exact .inl h2
  · exact .inr ⟨g, cap, cur, rfl, h1, (hk g rfl).trans h2, h3⟩
theorem owns_fr {S : Nat → Prop} {w w' : World} {e : TypeId} {z n : Nat} {v : Value} {xs : List Value} (h : w.ownsRow 0 e z v n xs) (hf : Fr S w w') (hS : ∀ g, v.ownBlock = some g → ¬ S g) : w'.ownsRow 0 e z v n xs :=
  owns_keep h (fun g hg => hf.block g (h.lt g hg).2 (hS g hg))
theorem FileAt.lt {w : World} {F : Fl} (h : FileAt w F) : ∀ k, F.foot k → k < w.heap.size := by
  rintro k (rfl | hk | ⟨x, hx, rfl⟩)
  · exact lt_of_block h.blk
  · exact (h.row.lt k hk).2
  · exact seg_lt h.seg x hx
theorem FileAt.fr {S : Nat → Prop} {w w' : World} {F : Fl} (h : FileAt w F) (hf : Fr S w w') (hS : ∀ k, F.foot k → ¬ S k) : FileAt w' F :=
  ⟨hf.keep h.blk (hS _ (.inl rfl)), owns_fr h.row hf (fun g hg => hS g (.inr (.inl hg))), seg_keep h.seg (fun x hx => hf.block x.b (seg_lt h.seg x hx) (hS _ (.inr (.inr ⟨x, hx, rfl⟩)))), h.nodup⟩
theorem FileAt.below {w w' : World} {F : Fl} (h : FileAt w F) (hf : Below w.heap.size w w') : FileAt w' F := h.fr (Fr.of (S := fun _ => False) hf) (fun _ _ => id)

/-- the row's block, where there are sectors -/
theorem owns_some {w : World} {e : TypeId} {z n : Nat} {v : Value} {xs : List Value} (h : w.ownsRow 0 e z v n xs) (hn : 0 < n) :
    ∃ g cap cur, v = .slice (some ⟨g, 0, none⟩) n cap ∧ w.heap[g]? = some (.cells cur e (0, 0)) ∧ n ≤ cap ∧ cap ≤ maxLen ∧ cur.size = cap * z ∧ cur.toList.take (n * z) = xs := by
  rcases h.2 with ⟨rfl, rfl⟩ | ⟨g, cap, cur, rfl, _, h2, h3, h4, h5, h6⟩
  · omega
  · exact ⟨g, cap, cur, rfl, h2, h3, h4, h5, h6⟩
theorem owns_shape {w : World} {e : TypeId} {z n : Nat} {v : Value} {xs : List Value} (h : w.ownsRow 0 e z v n xs) : ∃ a cap, v = .slice a n cap := by
  rcases h.2 with ⟨rfl, rfl⟩ | ⟨g, cap, cur, rfl, _⟩
  · exact ⟨_, _, rfl⟩
  · exact ⟨_, _, rfl⟩
theorem owns_cell {w : World} {e : TypeId} {z n g cap : Nat} {xs : List Value} (h : w.ownsRow 0 e z (.slice (some ⟨g, 0, none⟩) n cap) n xs) {j : Nat} {u : Value} (hj : xs[j]? = some u) : w.cell? ⟨g, j, none⟩ = some u := by
  have := h.cells (g := g) rfl j u hj
  by_cases e : j = 0
  · subst e; simpa [Addr.add] using this
  · simpa [Addr.add, e] using this
theorem owns_free {w : World} {e : TypeId} {z n g cap : Nat} {xs : List Value} (h : w.ownsRow 0 e z (.slice (some ⟨g, 0, none⟩) n cap) n xs) (j : Nat) : w.frozen? ⟨g, j, none⟩ = false := by
  rcases h.2 with ⟨h0, _⟩ | ⟨g', cap', cur, h0, _, h2, _⟩
  · simp at h0
  · simp only [Value.slice.injEq, Option.some.injEq, Addr.mk.injEq] at h0
    obtain ⟨⟨rfl, _⟩, _⟩ := h0
    exact free_at h2 j
/-- one cell of the row is written -/
theorem owns_set {w : World} {e : TypeId} {z n g cap : Nat} {xs : List Value} (h : w.ownsRow 0 e z (.slice (some ⟨g, 0, none⟩) n cap) n xs) (j : Nat) (u : Value) :
    (w.setCell ⟨g, j, none⟩ u).ownsRow 0 e z (.slice (some ⟨g, 0, none⟩) n cap) n (xs.set j u) := by
  refine ⟨by rw [List.length_set]; exact h.1, ?_⟩
  have hl := h.1
  rcases h.2 with ⟨h0, _⟩ | ⟨g', cap', cur, h0, h1, h2, h3, h4, h5, h6⟩
  · simp at h0
  · simp only [Value.slice.injEq, Option.some.injEq, Addr.mk.injEq] at h0
    obtain ⟨⟨rfl, _⟩, _, rfl⟩ := h0
    refine .inr ⟨g, cap, _, rfl, h1, set_at h2 j u, h3, h4, by simpa using h5, ?_⟩
    rw [Array.toList_setIfInBounds, List.take_set, h6]
theorem owns_lt {w : World} {e : TypeId} {z n g cap : Nat} {xs : List Value} (h : w.ownsRow 0 e z (.slice (some ⟨g, 0, none⟩) n cap) n xs) : g < w.heap.size := (h.lt g rfl).2
theorem owns_cap {w : World} {e : TypeId} {z n g cap : Nat} {xs : List Value} (h : w.ownsRow 0 e z (.slice (some ⟨g, 0, none⟩) n cap) n xs) : n ≤ cap ∧ cap ≤ maxLen := by
  rcases h.2 with ⟨h0, _⟩ | ⟨g', cap', cur, h0, h1, h2, h3, h4, h5, h6⟩
  · simp at h0
  · simp only [Value.slice.injEq, Option.some.injEq, Addr.mk.injEq] at h0
    obtain ⟨⟨rfl, _⟩, _, rfl⟩ := h0
    exact ⟨h3, h4⟩
/-- its sectors' block is none of a file's, nor a write's -/
theorem owns_ne {w : World} {e t : TypeId} {z n g cap b : Nat} {xs : List Value} {c : Array Value} {f : Nat × Nat} (h : w.ownsRow 0 e z (.slice (some ⟨g, 0, none⟩) n cap) n xs) (hb : w.heap[b]? = some (.cells c t f)) (ht : t ≠ e) : b ≠ g := by
  rcases h.2 with ⟨h0, _⟩ | ⟨g', cap', cur, h0, h1, h2, _⟩
  · simp at h0
  · simp only [Value.slice.injEq, Option.some.injEq, Addr.mk.injEq] at h0
    obtain ⟨⟨rfl, _⟩, _⟩ := h0
    rintro rfl
    rw [hb] at h2
    simp at h2
    exact ht h2.2.1
theorem block_ne {w : World} {a b : Nat} {c c' : Array Value} {t t' : TypeId} {f f' : Nat × Nat} (ha : w.heap[a]? = some (.cells c t f)) (hb : w.heap[b]? = some (.cells c' t' f')) (ht : t ≠ t') : a ≠ b := by
  rintro rfl
  rw [ha] at hb
  simp at hb
  exact ht hb.2.1

theorem heap_ext {w w' : World} {b : Nat} (h : w'.heap[b]? = w.heap[b]?) (j : Nat) : w'.cell? ⟨b, j, none⟩ = w.cell? ⟨b, j, none⟩ ∧ w'.frozen? ⟨b, j, none⟩ = w.frozen? ⟨b, j, none⟩ := by
  simp [World.cell?, World.frozen?, h]

end Go.Proofs.YtbkngnjkaledlaaGreat.P4
