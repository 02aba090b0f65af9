/-
  Texts of the proof of SaidPlay8b.
-/
import Derived.Test.YtbkngnjkaledlaaGreatRows
import Derived.BigQuiet
import Derived.Deep.OwnRows
import Derived.WalkSpells
import Derived.Lib.Builder
import Derived.Lib.Hide
namespace Go.Proofs.YtbkngnjkaledlaaGreat.P3
open Go Go.RowKit Go.Lib
theorem lt_of_block {w : World} {b : Nat} {o : Obj} (h : w.heap[b]? = some o) : b < w.heap.size := (Array.getElem?_eq_some_iff.1 h).1
theorem cell_at {w : World} {b : Nat} {c : Array Value} {t : TypeId} (h : w.heap[b]? = some (.cells c t (0, 0))) (j : Nat) : w.cell? ⟨b, j, none⟩ = c[j]? := by
 simp [World.cell?, h]
theorem free_at {w : World} {b : Nat} {c : Array Value} {t : TypeId} (h : w.heap[b]? = some (.cells c t (0, 0))) (j : Nat) : w.frozen? ⟨b, j, none⟩ = false := by
 simp [World.frozen?, h]
theorem set_at {w : World} {b : Nat} {c : Array Value} {t : TypeId} (h : w.heap[b]? = some (.cells c t (0, 0))) (j : Nat) (u : Value) : (w.setCell ⟨b, j, none⟩ u).heap[b]? = some (.cells (c.setIfInBounds j u) t (0, 0)) := by
 simp only [World.setCell, Array.getElem?_modify]; rw [h]; rfl
theorem new_at (w : World) (c : Array Value) (t : TypeId) : (w.alloc (.cells c t)).heap[w.heap.size]? = some (.cells c t (0, 0)) := heap_alloc_new w _
theorem old_alloc {w : World} {b : Nat} {x : Obj} (h : w.heap[b]? = some x) (o : Obj) : (w.alloc o).heap[b]? = some x := by
 rw [Below.heap_alloc _ _ _ (lt_of_block h)]; exact h
theorem old_set {w : World} {b : Nat} {x : Obj} (h : w.heap[b]? = some x) (a : Addr) (ha : b ≠ a.block) (u : Value) : (w.setCell a u).heap[b]? = some x := by
 rw [Below.heap_setCell _ _ _ _ ha]; exact h
theorem below_new (w : World) (o : Obj) : Below w.heap.size w (w.alloc o) := (Below.refl _ w).alloc (Nat.le_refl _) o
theorem old_below {w w' : World} {b : Nat} {x : Obj} (h : w.heap[b]? = some x) (hb : Below w.heap.size w w') : w'.heap[b]? = some x := by
 rw [hb.block b (lt_of_block h)]; exact h
theorem grow {a w : World} (h : Below a.heap.size a w) (o : Obj) : Below a.heap.size a (w.alloc o) := h.alloc h.size o
theorem thenBelow {a w w' : World} (h : Below a.heap.size a w) (k : Below w.heap.size w w') : Below a.heap.size a w' := h.trans (k.mono h.size)
structure Only (b : Nat) (w w' : World) : Prop where
 os : w'.os = w.os
 tape : w'.tape = w.tape
 output : w'.output = w.output
 size : w.heap.size ≤ w'.heap.size
 block : ∀ k, k < w.heap.size → k ≠ b → w'.heap[k]? = w.heap[k]?
theorem Only.refl (b : Nat) (w : World) : Only b w w := ⟨rfl, rfl, rfl, Nat.le_refl _, fun _ _ _ => rfl⟩
theorem Only.trans {b : Nat} {a w w' : World} (h : Only b a w) (k : Only b w w') : Only b a w' :=
 ⟨k.os.trans h.os, k.tape.trans h.tape, k.output.trans h.output, Nat.le_trans h.size k.size, fun i hi hb => (k.block i (Nat.lt_of_lt_of_le hi h.size) hb).trans (h.block i hi hb)⟩
theorem Only.of {b : Nat} {w w' : World} (h : Below w.heap.size w w') : Only b w w' := ⟨h.os, h.tape, h.output, h.size, fun k hk _ => h.block k hk⟩
theorem Only.drew {b : Nat} {a w : World} (h : Only b a w) : Only b a w.drew := ⟨h.os, h.tape, h.output, h.size, h.block⟩
theorem Only.drewN {b : Nat} {a w : World} (h : Only b a w) (n : Nat) : Only b a (w.drewN n) := by
 have k : Below w.heap.size w (w.drewN n) := by
  induction n generalizing w with
  | zero => exact Below.refl _ _
  | succ n ih => first | exact (ih h).drew | exact ((Below.refl _ w).drew).trans (ih h.drew)
 exact h.trans (.of k)
theorem Only.setCell {b : Nat} {a w : World} (h : Only b a w) (j : Nat) (u : Value) : Only b a (w.setCell ⟨b, j, none⟩ u) :=
 h.trans ⟨rfl, rfl, rfl, by simp [World.setCell], fun k _ hk => Below.heap_setCell _ _ _ _ hk⟩
theorem Only.keep {b k : Nat} {w w' : World} {x : Obj} (h : Only b w w') (hx : w.heap[k]? = some x) (hk : k ≠ b) : w'.heap[k]? = some x := by
 rw [h.block k (lt_of_block hx) hk]; exact hx
theorem Only.new {b : Nat} {a w w' : World} (h : Below a.heap.size a w) (k : Only b w w') (hb : a.heap.size ≤ b) : Below a.heap.size a w' :=
 h.trans ⟨k.os, k.tape, k.output, k.size, fun i hi => k.block i (Nat.lt_of_lt_of_le hi h.size) (by omega)⟩
theorem below_drewN (w : World) (n : Nat) : Below w.heap.size w (w.drewN n) := by
 induction n generalizing w with
 | zero => exact Below.refl _ _
 | succ n ih => first | exact (ih w).drew | exact ((Below.refl _ w).drew).trans (ih w.drew)
structure Fr (S : Nat → Prop) (w w' : World) : Prop where
 os : w'.os = w.os
 tape : w'.tape = w.tape
 output : w'.output = w.output
 size : w.heap.size ≤ w'.heap.size
 block : ∀ k, k < w.heap.size → ¬ S k → w'.heap[k]? = w.heap[k]?
theorem Fr.refl (S : Nat → Prop) (w : World) : Fr S w w := ⟨rfl, rfl, rfl, Nat.le_refl _, fun _ _ _ => rfl⟩
theorem Fr.trans {S : Nat → Prop} {a w w' : World} (h : Fr S a w) (k : Fr S w w') : Fr S a w' :=
 ⟨k.os.trans h.os, k.tape.trans h.tape, k.output.trans h.output, Nat.le_trans h.size k.size, fun i hi hb => (k.block i (Nat.lt_of_lt_of_le hi h.size) hb).trans (h.block i hi hb)⟩
theorem Fr.mono {S T : Nat → Prop} {w w' : World} (h : Fr S w w') (hs : ∀ k, k < w.heap.size → S k → T k) : Fr T w w' :=
 ⟨h.os, h.tape, h.output, h.size, fun k hk hn => h.block k hk (fun hs' => hn (hs k hk hs'))⟩
theorem Fr.of {S : Nat → Prop} {w w' : World} (h : Below w.heap.size w w') : Fr S w w' := ⟨h.os, h.tape, h.output, h.size, fun k hk _ => h.block k hk⟩
theorem Fr.only {S : Nat → Prop} {b : Nat} {w w' : World} (h : Only b w w') (hs : S b) : Fr S w w' := ⟨h.os, h.tape, h.output, h.size, fun k hk hn => h.block k hk (fun e => hn (e ▸ hs))⟩
theorem Fr.keep {S : Nat → Prop} {k : Nat} {w w' : World} {x : Obj} (h : Fr S w w') (hx : w.heap[k]? = some x) (hk : ¬ S k) : w'.heap[k]? = some x := by
 rw [h.block k (lt_of_block hx) hk]; exact hx
theorem Fr.new {S : Nat → Prop} {a w w' : World} (h : Below a.heap.size a w) (k : Fr S w w') (hb : ∀ i, S i → a.heap.size ≤ i) : Below a.heap.size a w' :=
 h.trans ⟨k.os, k.tape, k.output, k.size, fun i hi => k.block i (Nat.lt_of_lt_of_le hi h.size) (fun hs => by have := hb i hs; omega)⟩
theorem Fr.below {w w' : World} (h : Fr (fun _ => False) w w') : Below w.heap.size w w' := ⟨h.os, h.tape, h.output, h.size, fun k hk => h.block k hk id⟩
end Go.Proofs.YtbkngnjkaledlaaGreat.P3
namespace Go.Proofs.YtbkngnjkaledlaaGreat.P4
open Go Go.RowKit Go.Lib P3
def ptr : Option Nat → Value
 | none => .pointer none
 | some b => .pointer (some ⟨b, 0, none⟩)
theorem ptr_none : ptr none = .pointer none := rfl
theorem ptr_some (b : Nat) : ptr (some b) = .pointer (some ⟨b, 0, none⟩) := rfl
structure Wr where
 b : Nat
 turn : Nat
 pos : Nat
 data : ByteArray
 kept : Nat
 under : Option Nat
def Wr.cells (x : Wr) (a h : Option Nat) : Array Value := #[.int .i64 x.turn, .int .i64 x.pos, .string x.data, .int .i64 x.kept, ptr a, ptr h, ptr x.under]
def WrAt (w : World) (x : Wr) (a h : Option Nat) : Prop := w.heap[x.b]? = some (.cells (x.cells a h) 123 (0, 0))
def hd : List Wr → Option Nat → Option Nat
 | [], n => n
 | x :: _, _ => some x.b
def lst : Option Nat → List Wr → Option Nat
 | p, [] => p
 | _, x :: r => lst (some x.b) r
def Seg (w : World) : Option Nat → List Wr → Option Nat → Prop
 | _, [], _ => True
 | p, x :: r, n => WrAt w x p (hd r n) ∧ Seg w (some x.b) r n
theorem hd_app (l r : List Wr) (n : Option Nat) : hd (l ++ r) n = hd l (hd r n) := by cases l <;> rfl
theorem lst_app : ∀ (l r : List Wr) (p : Option Nat), lst p (l ++ r) = lst (lst p l) r
 | [], _, _ => rfl
 | _ :: l, r, _ => lst_app l r _
theorem lst_snoc (l : List Wr) (x : Wr) (p : Option Nat) : lst p (l ++ [x]) = some x.b := by rw [lst_app]; rfl
theorem seg_app {w : World} : ∀ (l r : List Wr) (p n : Option Nat), Seg w p (l ++ r) n ↔ Seg w p l (hd r n) ∧ Seg w (lst p l) r n
 | [], r, p, n => by simp [Seg, lst]
 | x :: l, r, p, n => by
  simp only [List.cons_append, Seg, lst]
  rw [seg_app l r (some x.b) n, hd_app, and_assoc]
theorem seg_keep {w w' : World} : ∀ {l : List Wr} {p n : Option Nat}, Seg w p l n → (∀ x ∈ l, w'.heap[x.b]? = w.heap[x.b]?) → Seg w' p l n
 | [], _, _, _, _ => trivial
 | x :: r, p, n, h, hk => by
  refine ⟨?_, seg_keep h.2 (fun y hy => hk y (List.mem_cons_of_mem _ hy))⟩
  unfold WrAt
  rw [hk x List.mem_cons_self]
  exact h.1
theorem seg_mem {w : World} : ∀ {l : List Wr} {p n : Option Nat}, Seg w p l n → ∀ x ∈ l, ∃ a h, WrAt w x a h
 | [], _, _, _, x, hx => by simp at hx
 | y :: r, p, n, h, x, hx => by
  rcases List.mem_cons.1 hx with rfl | hx
  ·exact ⟨_, _, h.1⟩
  ·exact seg_mem h.2 x hx
theorem seg_lt {w : World} {l : List Wr} {p n : Option Nat} (h : Seg w p l n) : ∀ x ∈ l, x.b < w.heap.size := fun x hx => by
 obtain ⟨_, _, h⟩ := seg_mem h x hx
 exact lt_of_block h
theorem seg_next {w : World} {l : List Wr} {x : Wr} {p n n' : Option Nat} (h : Seg w p (l ++ [x]) n) (hn : ∀ y ∈ l, y.b ≠ x.b) : Seg (w.setCell ⟨x.b, 5, none⟩ (ptr n')) p (l ++ [x]) n' := by
 rw [seg_app] at h ⊢
 refine ⟨seg_keep h.1 (fun y hy => Below.heap_setCell _ _ _ _ (hn y hy)), ?_, trivial⟩
 unfold WrAt
 rw [set_at h.2.1]
 rfl
theorem seg_prev {w : World} {r : List Wr} {x : Wr} {p p' n : Option Nat} (h : Seg w p (x :: r) n) (hn : ∀ y ∈ r, y.b ≠ x.b) : Seg (w.setCell ⟨x.b, 4, none⟩ (ptr p')) p' (x :: r) n := by
 refine ⟨?_, seg_keep h.2 (fun y hy => Below.heap_setCell _ _ _ _ (hn y hy))⟩
 unfold WrAt
 rw [set_at h.1]
 rfl
def Wr.keep (x : Wr) (k : Nat) : Wr := { x with kept := k }
theorem seg_kept {w : World} {l r : List Wr} {x : Wr} {p n : Option Nat} (h : Seg w p (l ++ x :: r) n) (hn : ∀ y ∈ l ++ r, y.b ≠ x.b) (k : Nat) : Seg (w.setCell ⟨x.b, 3, none⟩ (.int .i64 k)) p (l ++ x.keep k :: r) n := by
 rw [seg_app] at h ⊢
 refine ⟨seg_keep h.1 (fun y hy => Below.heap_setCell _ _ _ _ (hn y (by simp [hy]))), ?_, seg_keep h.2.2 (fun y hy => Below.heap_setCell _ _ _ _ (hn y (by simp [hy])))⟩
 unfold WrAt
 have := h.2.1
 unfold WrAt at this
 show (w.setCell ⟨x.b, 3, none⟩ _).heap[x.b]? = _
 rw [set_at this]
 rfl
structure Sec where
 now : ByteArray
 safe : ByteArray
 top : Option Nat
def Sec.cells (s : Sec) : List Value := [.string s.now, .string s.safe, ptr s.top]
def secsCells (l : List Sec) : List Value := l.flatMap Sec.cells
theorem secs_length (l : List Sec) : (secsCells l).length = l.length * 3 := by
 induction l with
 | nil => rfl
 | cons s r ih =>
  show (s.cells ++ secsCells r).length = _
  rw [List.length_append, ih, List.length_cons]
  simp [Sec.cells]
  omega
theorem secs_app (l r : List Sec) : secsCells (l ++ r) = secsCells l ++ secsCells r := by simp [secsCells]
theorem secs_at : ∀ (l : List Sec) (i : Nat) (s : Sec), l[i]? = some s → (secsCells l)[i * 3]? = some (.string s.now) ∧ (secsCells l)[i * 3 + 1]? = some (.string s.safe) ∧ (secsCells l)[i * 3 + 2]? = some (ptr s.top)
 | [], i, s, h => by simp at h
 | t :: r, 0, s, h => by
  obtain rfl : t = s := by simpa using h
  exact ⟨rfl, rfl, rfl⟩
 | t :: r, i + 1, s, h => by
  have := secs_at r i s (by simpa using h)
  have e : secsCells (t :: r) = .string t.now :: .string t.safe :: ptr t.top :: secsCells r := rfl
  rw [e, show (i + 1) * 3 = i * 3 + 1 + 1 + 1 by omega]
  simp only [List.getElem?_cons_succ]
  exact this
theorem secs_set : ∀ (l : List Sec) (i : Nat) (s : Sec), l[i]? = some s → ∀ t : Sec, secsCells (l.set i t) = (((secsCells l).set (i * 3) (.string t.now)).set (i * 3 + 1) (.string t.safe)).set (i * 3 + 2) (ptr t.top)
 | [], i, s, h, _ => by simp at h
 | u :: r, 0, s, h, t => rfl
 | u :: r, i + 1, s, h, t => by
  have := secs_set r i s (by simpa using h) t
  have e : ∀ (u : Sec) r, secsCells (u :: r) = .string u.now :: .string u.safe :: ptr u.top :: secsCells r := fun _ _ => rfl
  rw [List.set_cons_succ, e, e, this, show (i + 1) * 3 = i * 3 + 1 + 1 + 1 by omega]
  rfl
structure Fl where
 b : Nat
 sl : Value
 secs : List Sec
 ns : Nat
 stays : Bool
 ws : List Wr
def Fl.cells (F : Fl) : Array Value := #[F.sl, .int .i64 F.ns, .bool F.stays, ptr (hd F.ws none), ptr (lst none F.ws), .int .i64 F.ws.length]
structure FileAt (w : World) (F : Fl) : Prop where
 blk : w.heap[F.b]? = some (.cells F.cells 148 (0, 0))
 row : w.ownsRow 0 143 3 F.sl F.secs.length (secsCells F.secs)
 seg : Seg w none F.ws none
 nodup : (F.ws.map (·.b)).Nodup
def Fl.foot (F : Fl) (k : Nat) : Prop := k = F.b ∨ F.sl.ownBlock = some k ∨ ∃ x ∈ F.ws, x.b = k
theorem owns_keep {w w' : World} {e : TypeId} {z n : Nat} {v : Value} {xs : List Value} (h : w.ownsRow 0 e z v n xs) (hk : ∀ g, v.ownBlock = some g → w'.heap[g]? = w.heap[g]?) : w'.ownsRow 0 e z v n xs := by
 refine ⟨h.1, ?_⟩
 rcases h.2 with h2 | ⟨g, cap, cur, rfl, h1, h2, h3⟩
 ·exact .inl h2
 ·exact .inr ⟨g, cap, cur, rfl, h1, (hk g rfl).trans h2, h3⟩
theorem owns_fr {S : Nat → Prop} {w w' : World} {e : TypeId} {z n : Nat} {v : Value} {xs : List Value} (h : w.ownsRow 0 e z v n xs) (hf : Fr S w w') (hS : ∀ g, v.ownBlock = some g → ¬ S g) : w'.ownsRow 0 e z v n xs :=
 owns_keep h (fun g hg => hf.block g (h.lt g hg).2 (hS g hg))
theorem FileAt.lt {w : World} {F : Fl} (h : FileAt w F) : ∀ k, F.foot k → k < w.heap.size := by
 rintro k (rfl | hk | ⟨x, hx, rfl⟩)
 ·exact lt_of_block h.blk
 ·exact (h.row.lt k hk).2
 ·exact seg_lt h.seg x hx
theorem FileAt.fr {S : Nat → Prop} {w w' : World} {F : Fl} (h : FileAt w F) (hf : Fr S w w') (hS : ∀ k, F.foot k → ¬ S k) : FileAt w' F :=
 ⟨hf.keep h.blk (hS _ (.inl rfl)), owns_fr h.row hf (fun g hg => hS g (.inr (.inl hg))), seg_keep h.seg (fun x hx => hf.block x.b (seg_lt h.seg x hx) (hS _ (.inr (.inr ⟨x, hx, rfl⟩)))), h.nodup⟩
theorem FileAt.below {w w' : World} {F : Fl} (h : FileAt w F) (hf : Below w.heap.size w w') : FileAt w' F := h.fr (Fr.of (S := fun _ => False) hf) (fun _ _ => id)
theorem owns_some {w : World} {e : TypeId} {z n : Nat} {v : Value} {xs : List Value} (h : w.ownsRow 0 e z v n xs) (hn : 0 < n) :
  ∃ g cap cur, v = .slice (some ⟨g, 0, none⟩) n cap ∧ w.heap[g]? = some (.cells cur e (0, 0)) ∧ n ≤ cap ∧ cap ≤ maxLen ∧ cur.size = cap * z ∧ cur.toList.take (n * z) = xs := by
 rcases h.2 with ⟨rfl, rfl⟩ | ⟨g, cap, cur, rfl, _, h2, h3, h4, h5, h6⟩
 ·omega
 ·exact ⟨g, cap, cur, rfl, h2, h3, h4, h5, h6⟩
theorem owns_shape {w : World} {e : TypeId} {z n : Nat} {v : Value} {xs : List Value} (h : w.ownsRow 0 e z v n xs) : ∃ a cap, v = .slice a n cap := by
 rcases h.2 with ⟨rfl, rfl⟩ | ⟨g, cap, cur, rfl, _⟩
 ·exact ⟨_, _, rfl⟩
 ·exact ⟨_, _, rfl⟩
theorem owns_cell {w : World} {e : TypeId} {z n g cap : Nat} {xs : List Value} (h : w.ownsRow 0 e z (.slice (some ⟨g, 0, none⟩) n cap) n xs) {j : Nat} {u : Value} (hj : xs[j]? = some u) : w.cell? ⟨g, j, none⟩ = some u := by
 have := h.cells (g := g) rfl j u hj
 by_cases e : j = 0
 ·subst e; simpa [Addr.add] using this
 ·simpa [Addr.add, e] using this
theorem owns_free {w : World} {e : TypeId} {z n g cap : Nat} {xs : List Value} (h : w.ownsRow 0 e z (.slice (some ⟨g, 0, none⟩) n cap) n xs) (j : Nat) : w.frozen? ⟨g, j, none⟩ = false := by
 rcases h.2 with ⟨h0, _⟩ | ⟨g', cap', cur, h0, _, h2, _⟩
 ·simp at h0
 ·simp only [Value.slice.injEq, Option.some.injEq, Addr.mk.injEq] at h0
  obtain ⟨⟨rfl, _⟩, _⟩ := h0
  exact free_at h2 j
theorem owns_set {w : World} {e : TypeId} {z n g cap : Nat} {xs : List Value} (h : w.ownsRow 0 e z (.slice (some ⟨g, 0, none⟩) n cap) n xs) (j : Nat) (u : Value) :
  (w.setCell ⟨g, j, none⟩ u).ownsRow 0 e z (.slice (some ⟨g, 0, none⟩) n cap) n (xs.set j u) := by
 refine ⟨by rw [List.length_set]; exact h.1, ?_⟩
 have hl := h.1
 rcases h.2 with ⟨h0, _⟩ | ⟨g', cap', cur, h0, h1, h2, h3, h4, h5, h6⟩
 ·simp at h0
 ·simp only [Value.slice.injEq, Option.some.injEq, Addr.mk.injEq] at h0
  obtain ⟨⟨rfl, _⟩, _, rfl⟩ := h0
  refine .inr ⟨g, cap, _, rfl, h1, set_at h2 j u, h3, h4, by simpa using h5, ?_⟩
  rw [Array.toList_setIfInBounds, List.take_set, h6]
theorem owns_lt {w : World} {e : TypeId} {z n g cap : Nat} {xs : List Value} (h : w.ownsRow 0 e z (.slice (some ⟨g, 0, none⟩) n cap) n xs) : g < w.heap.size := (h.lt g rfl).2
theorem owns_cap {w : World} {e : TypeId} {z n g cap : Nat} {xs : List Value} (h : w.ownsRow 0 e z (.slice (some ⟨g, 0, none⟩) n cap) n xs) : n ≤ cap ∧ cap ≤ maxLen := by
 rcases h.2 with ⟨h0, _⟩ | ⟨g', cap', cur, h0, h1, h2, h3, h4, h5, h6⟩
 ·simp at h0
 ·simp only [Value.slice.injEq, Option.some.injEq, Addr.mk.injEq] at h0
  obtain ⟨⟨rfl, _⟩, _, rfl⟩ := h0
  exact ⟨h3, h4⟩
theorem block_ne {w : World} {a b : Nat} {c c' : Array Value} {t t' : TypeId} {f f' : Nat × Nat} (ha : w.heap[a]? = some (.cells c t f)) (hb : w.heap[b]? = some (.cells c' t' f')) (ht : t ≠ t') : a ≠ b := by
 rintro rfl
 rw [ha] at hb
 simp at hb
 exact ht hb.2.1
theorem heap_ext {w w' : World} {b : Nat} (h : w'.heap[b]? = w.heap[b]?) (j : Nat) : w'.cell? ⟨b, j, none⟩ = w.cell? ⟨b, j, none⟩ ∧ w'.frozen? ⟨b, j, none⟩ = w.frozen? ⟨b, j, none⟩ := by
 simp [World.cell?, World.frozen?, h]
end Go.Proofs.YtbkngnjkaledlaaGreat.P4
namespace Go.Proofs.YtbkngnjkaledlaaGreat.P4
open Go Go.RowKit Go.Lib Go.Maps Go.ChangeMaps Go.MapKept P3
def enF (b : Int) : DataW Unit := .lit (.int .i64 b)
def Rf : Value → Option (DataW Unit × List MemPlace)
 | .pointer none => some (enF (-1), [])
 | .pointer (some ⟨b, 0, none⟩) => some (enF b, [])
 | _ => none
theorem rf_ptr (o : Option Nat) : Rf (ptr o) = some (enF (match o with | none => -1 | some b => (b : Int)), []) := by cases o <;> rfl
theorem rf_inv {v : Value} {y : DataW Unit × List MemPlace} (h : Rf v = some y) : ∃ o, v = ptr o ∧ y = (enF (match o with | none => -1 | some b => (b : Int)), []) := by
 unfold Rf at h
 split at h
 ·exact ⟨none, rfl, by simpa using h.symm⟩
 ·exact ⟨some _, rfl, by simpa using h.symm⟩
 ·cases h
theorem enF_inj {a b : Int} (h : enF a = enF b) : a = b := by simpa [enF] using h
theorem lawS : Keyed Tryz.prog 9 := string_keyed Tryz.underlying9
theorem keyS {s : ByteArray} (hs : s.size ≤ maxLen) : keyOf Tryz.prog 9 (.string s) = some (.string s.data.toList) := WideMaps.keyOf_string_mk Tryz.underlying9 hs
theorem zeroF (w : World) : (zeroValue 124).run Tryz.prog w = .ok (.pointer none) w := by kernel_rfl
theorem slit (n : List UInt8) : WideAt.IsKeyLit (.string n) := trivial
theorem string_lit {a b : List UInt8} (h : Lit.string a = Lit.string b) : a = b := by simpa using h
abbrev Dir := List (List UInt8 × Nat)
structure Looks (D : DataW Unit) (L : Dir) : Prop where
 size : Maps.size D = L.length
 here : ∀ n b, (n, b) ∈ L → ∀ z, D.atKey (.string n) z = enF b
 has : ∀ n, Maps.has D (.string n) = true → ∃ b, (n, b) ∈ L
def MapAt (w : World) (m : Option Nat) (L : Dir) : Prop :=
 (m = none ∧ L = []) ∨ ∃ b D, m = some b ∧ w.ownsMap Tryz.prog 9 Rf b L.length D ∧ Looks D L
def lk (L : Dir) (n : List UInt8) : Option Nat := (L.find? (·.1 == n)).map (·.2)
theorem lk_some {L : Dir} {n : List UInt8} {b : Nat} (h : lk L n = some b) : (n, b) ∈ L := by
 unfold lk at h
 obtain ⟨⟨n', b'⟩, h1, rfl⟩ := Option.map_eq_some_iff.1 h
 have h2 := List.mem_of_find?_eq_some h1
 have h3 := List.find?_some h1
 obtain rfl : n' = n := by simpa using h3
 exact h2
theorem lk_none {L : Dir} {n : List UInt8} (h : lk L n = none) : ∀ b, (n, b) ∉ L := by
 intro b hb
 unfold lk at h
 rw [Option.map_eq_none_iff, List.find?_eq_none] at h
 exact h _ hb (by simp)
theorem lk_mem {L : Dir} (hn : (L.map (·.1)).Nodup) {n : List UInt8} {b : Nat} (h : (n, b) ∈ L) : lk L n = some b := by
 cases e : lk L n with
 | none => exact absurd h (lk_none e b)
 | some b' =>
  have h2 := lk_some e
  have : ∀ {L : Dir}, (L.map (·.1)).Nodup → (n, b) ∈ L → (n, b') ∈ L → b = b' := by
   intro L
   induction L with
   | nil => intro _ h; simp at h
   | cons p r ih =>
    intro hn h1 h2
    rw [List.map_cons, List.nodup_cons] at hn
    rcases List.mem_cons.1 h1 with e1 | h1
    ·rcases List.mem_cons.1 h2 with e2 | h2
     ·rw [← e1] at e2; simpa using e2.symm
     ·exact absurd (List.mem_map.2 ⟨_, h2, by rw [← e1]⟩) hn.1
    ·rcases List.mem_cons.1 h2 with e2 | h2
     ·exact absurd (List.mem_map.2 ⟨_, h1, by rw [← e2]⟩) hn.1
     ·exact ih hn.2 h1 h2
  rw [this hn h h2]
theorem owns_tight {w : World} {b n : Nat} {D : DataW Unit} (h : w.ownsMap Tryz.prog 9 Rf b n D) : w.ownsMap Tryz.prog 9 Rf b (Maps.size D) D := by
 obtain ⟨es, clock, hb, F, hs, rfl⟩ := h
 exact ⟨es, clock, hb, F, by simp [Maps.size, length_sorted], rfl⟩
theorem MapAt.fr {S : Nat → Prop} {w w' : World} {m : Option Nat} {L : Dir} (h : MapAt w m L) (hf : Fr S w w') (hS : ∀ b, m = some b → ¬ S b) : MapAt w' m L := by
 rcases h with h | ⟨b, D, rfl, ⟨es, clock, hb, r⟩, hl⟩
 ·exact .inl h
 ·exact .inr ⟨b, D, rfl, ⟨es, clock, hf.keep hb (hS b rfl), r⟩, hl⟩
theorem MapAt.look {w : World} {m : Option Nat} {L : Dir} (h : MapAt w m L) (hn : (L.map (·.1)).Nodup) {s : ByteArray} (hs : s.size ≤ maxLen) : (Instr.lookup 71 (.map m) (.string s) false).run Tryz.prog w = .ok (ptr (lk L s.data.toList)) w := by
 rcases h with ⟨rfl, rfl⟩ | ⟨b, D, rfl, ho, hl⟩
 ·have := Maps.look_nil (w := w) false lawS Tryz.underlying71 (zeroF w) (keyS hs)
  show _ = Result.ok (Value.pointer none) w
  simpa using this
 ·obtain ⟨v, ps, hrun, hv⟩ := ho.lookup lawS Tryz.underlying71 (zeroF w) (rf_ptr none) (keyS hs)
  obtain ⟨o, rfl, e⟩ := rf_inv hv
  suffices eo : o = lk L s.data.toList by rw [hrun, eo]
  simp only [Prod.mk.injEq] at e
  cases e2 : lk L s.data.toList with
  | some c =>
   have := hl.here _ _ (lk_some e2) (enF (-1))
   rw [this] at e
   have e3 := enF_inj e.1
   cases o with
   | none => exfalso; have e4 : (c : Int) = -1 := e3; omega
   | some o =>
         have e4 : (c : Int) = (o : Int) := e3
         obtain rfl : o = c := by omega
         rfl
  | none =>
   have hno : Maps.has D (.string s.data.toList) = false := by
    cases e3 : Maps.has D (.string s.data.toList) with
    | false => rfl
    | true =>
     obtain ⟨c, hc⟩ := hl.has _ e3
     exact absurd hc (lk_none e2 c)
   have := atKey_of_not_has hno (enF (-1))
   rw [this] at e
   have e3 := enF_inj e.1
   cases o with
   | none => rfl
   | some o => exfalso; have e4 : (-1 : Int) = (o : Int) := e3; omega
def putL (L : Dir) (n : List UInt8) (b : Nat) : Dir := L.filter (·.1 != n) ++ [(n, b)]
def delL (L : Dir) (n : List UInt8) : Dir := L.filter (·.1 != n)
theorem del_length {L : Dir} (hn : (L.map (·.1)).Nodup) (n : List UInt8) : (delL L n).length + (if (lk L n).isSome then 1 else 0) = L.length := by
 induction L with
 | nil => rfl
 | cons p r ih =>
  rw [List.map_cons, List.nodup_cons] at hn
  have ih := ih hn.2
  unfold delL lk at *
  by_cases e : p.1 = n
  ·have h1 : (p.1 != n) = false := by simpa using e
   have h2 : (p.1 == n) = true := by simpa using e
   rw [List.filter_cons_of_neg (by simpa using e)]
   simp only [List.find?_cons, h2]
   have hno : r.find? (·.1 == n) = none := by
    rw [List.find?_eq_none]
    intro q hq h3
    have h3 : q.1 = n := by simpa using h3
    exact hn.1 (List.mem_map.2 ⟨q, hq, by rw [h3, e]⟩)
   rw [hno] at ih
   simpa using ih
  ·have h2 : (p.1 == n) = false := by simpa using e
   rw [List.filter_cons_of_pos (by simpa using e), List.length_cons, List.length_cons]
   simp only [List.find?_cons, h2]
   omega
theorem del_mem {L : Dir} {n k : List UInt8} {b : Nat} : (k, b) ∈ delL L n ↔ (k, b) ∈ L ∧ k ≠ n := by
 unfold delL
 rw [List.mem_filter]
 simp
theorem has_of_here {D : DataW Unit} {L : Dir} (hl : Looks D L) {n : List UInt8} {b : Nat} (h : (n, b) ∈ L) : Maps.has D (.string n) = true := has_true_of_atKey (hl.here n b h)
theorem lk_has {D : DataW Unit} {L : Dir} (hl : Looks D L) (n : List UInt8) : Maps.has D (.string n) = (lk L n).isSome := by
 cases e : lk L n with
 | some b => exact has_of_here hl (lk_some e)
 | none =>
  cases e2 : Maps.has D (.string n) with
  | false => rfl
  | true =>
   obtain ⟨b, hb⟩ := hl.has n e2
   exact absurd hb (lk_none e b)
theorem looks_del {D : DataW Unit} {L : Dir} (hl : Looks D L) (ht : Tidy D) (hn : (L.map (·.1)).Nodup) (n : List UInt8) : Looks (D.del (.string n)) (delL L n) := by
 refine ⟨?_, fun k b hb z => ?_, fun k hk => ?_⟩
 ·have h1 := size_del (k := .string n) ht
  have h2 := del_length hn n
  rw [lk_has hl] at h1
  rw [hl.size] at h1
  split at h1 <;> split at h2 <;> simp_all <;> omega
 ·obtain ⟨h1, h2⟩ := del_mem.1 hb
  rw [atKey_del_other (fun e => h2 (string_lit e))]
  exact hl.here k b h1 z
 ·by_cases e : k = n
  ·subst e
   rw [has_del_same] at hk
   cases hk
  ·rw [has_del_other (fun e2 => e (string_lit e2))] at hk
   obtain ⟨b, hb⟩ := hl.has k hk
   exact ⟨b, del_mem.2 ⟨hb, e⟩⟩
theorem looks_put {D : DataW Unit} {L : Dir} (hl : Looks D L) (ht : Tidy D) (hn : (L.map (·.1)).Nodup) (n : List UInt8) (c : Nat) : Looks (D.put (.string n) (enF c)) (putL L n c) := by
 refine ⟨?_, fun k b hb z => ?_, fun k hk => ?_⟩
 ·have h1 := size_put (k := .string n) ht (enF c)
  have h2 := del_length hn n
  rw [lk_has hl, hl.size] at h1
  unfold putL
  rw [List.length_append]
  show _ = (delL L n).length + 1
  split at h1 <;> split at h2 <;> simp_all <;> omega
 ·unfold putL at hb
  rcases List.mem_append.1 hb with hb | hb
  ·obtain ⟨h1, h2⟩ := del_mem.1 hb
   rw [atKey_put_other (fun e => h2 (string_lit e))]
   exact hl.here k b h1 z
  ·obtain ⟨rfl, rfl⟩ : k = n ∧ b = c := by simpa using hb
   exact atKey_put_same ht.isMap (slit _) _ _
 ·unfold putL
  by_cases e : k = n
  ·subst e
   exact ⟨c, by simp⟩
  ·rw [has_put_other (fun e2 => e (string_lit e2))] at hk
   obtain ⟨b, hb⟩ := hl.has k hk
   exact ⟨b, List.mem_append_left _ (del_mem.2 ⟨hb, e⟩)⟩
theorem MapAt.put {w : World} {b : Nat} {L : Dir} (h : MapAt w (some b) L) (hn : (L.map (·.1)).Nodup) (hfew : L.length ≤ 1000) {s : ByteArray} (hs : s.size ≤ maxLen) (c : Nat) :
  ∃ w', (Instr.mapUpdate 71 (.map (some b)) (.string s) (.pointer (some ⟨c, 0, none⟩))).run Tryz.prog w = .ok () w' ∧ MapAt w' (some b) (putL L s.data.toList c) ∧ w.mapTurned w' b := by
 rcases h with ⟨h, _⟩ | ⟨b', D, e, ho, hl⟩
 ·cases h
 obtain rfl : b = b' := by simpa using e
 obtain ⟨w', hrun, ho', ht⟩ := ho.store lawS Tryz.underlying71 (by unfold maxLen; omega) (keyS hs) (rf_ptr (some c))
 have hl' := looks_put hl (ho.tidy lawS) hn s.data.toList c
 refine ⟨w', hrun, .inr ⟨b, _, rfl, ?_, hl'⟩, ht⟩
 rw [← hl'.size]
 exact owns_tight ho'
theorem MapAt.del {w : World} {m : Option Nat} {L : Dir} (h : MapAt w m L) (hn : (L.map (·.1)).Nodup) {s : ByteArray} (hs : s.size ≤ maxLen) (ty : TypeId) :
  ∃ w', (Builtin.delete_ #[71, 9] ty #[.map m, .string s]).run Tryz.prog w = .ok (.tuple #[]) w' ∧ MapAt w' m (delL L s.data.toList) ∧ (∀ b, m = some b → w.mapTurned w' b) ∧ (m = none → w' = w) := by
 rcases h with ⟨rfl, rfl⟩ | ⟨b, D, rfl, ho, hl⟩
 ·exact ⟨w, Maps.drop_nil lawS Tryz.underlying71 (keyS hs) ty, .inl ⟨rfl, rfl⟩, fun b e => (by cases e), fun _ => rfl⟩
 ·obtain ⟨w', hrun, ho', ht⟩ := ho.drop lawS Tryz.underlying71 (keyS hs) ty
  have hl' := looks_del hl (ho.tidy lawS) hn s.data.toList
  refine ⟨w', hrun, .inr ⟨b, _, rfl, ?_, hl'⟩, fun b' e => ?_, fun e => (by cases e)⟩
  ·rw [← hl'.size]
   exact owns_tight ho'
  ·obtain rfl : b = b' := by simpa using e
   exact ht
theorem MapAt.len {w : World} {m : Option Nat} {L : Dir} (h : MapAt w m L) (ty : TypeId) : (Builtin.len_ #[71] ty #[.map m]).run Tryz.prog w = .ok (.int .i64 L.length) w := by
 rcases h with ⟨rfl, rfl⟩ | ⟨b, D, rfl, ho, hl⟩
 ·exact Maps.len_nil Tryz.underlying71 ty
 ·rw [ho.len Tryz.underlying71 ty, hl.size]
theorem MapAt.made (w : World) : MapAt (w.alloc (.map #[] 0)) (some w.heap.size) [] :=
 .inr ⟨_, _, rfl, World.ownsMap_made w _ _ _, ⟨rfl, fun n b h => by simp at h, fun n h => by simp [Maps.has] at h⟩⟩
theorem del_nodup {L : Dir} (hn : (L.map (·.1)).Nodup) (n : List UInt8) : ((delL L n).map (·.1)).Nodup := (List.filter_sublist.map _).nodup hn
end Go.Proofs.YtbkngnjkaledlaaGreat.P4
