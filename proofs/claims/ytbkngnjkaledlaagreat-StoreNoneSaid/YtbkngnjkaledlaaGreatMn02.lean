/-
  Texts of the proof of SaidNone8, side by side: Dk0.
-/
import Derived.Test.YtbkngnjkaledlaaGreatMn01
/-
  Package disk: lists of writes, sectors, files, as they stand in memory. (Disk, part 0.)
-/
namespace Go.Proofs.YtbkngnjkaledlaaGreat.P4
open Go Go.RowKit Go.Lib Go.Proofs.YtbkngnjkaledlaaGreat.P3

/-- a pointer to a block's first cell, or nil -/
def ptr : Option Nat → Value
  | none => .pointer none
  | some b => .pointer (some ⟨b, 0, none⟩)
theorem ptr_none : ptr none = .pointer none := rfl
theorem ptr_some (b : Nat) : ptr (some b) = .pointer (some ⟨b, 0, none⟩) := rfl

/-- a write that is not safe: its block; what it is -/
structure Wr where
  b : Nat
  turn : Nat
  pos : Nat
  data : ByteArray
  kept : Nat
  under : Option Nat

def Wr.cells (x : Wr) (a h : Option Nat) : Array Value := #[.int .i64 x.turn, .int .i64 x.pos, .string x.data, .int .i64 x.kept, ptr a, ptr h, ptr x.under]
def WrAt (w : World) (x : Wr) (a h : Option Nat) : Prop := w.heap[x.b]? = some (.cells (x.cells a h) 123 (0, 0))

/-- the first one's block; n where there is none -/
def hd : List Wr → Option Nat → Option Nat
  | [], n => n
  | x :: _, _ => some x.b
/-- the last one's block; p where there is none -/
def lst : Option Nat → List Wr → Option Nat
  | p, [] => p
  | _, x :: r => lst (some x.b) r
/-- linked writes: p comes ahead of them, n behind them -/
def Seg (w : World) : Option Nat → List Wr → Option Nat → Prop
  | _, [], _ => True
  | p, x :: r, n => WrAt w x p (hd r n) ∧ Seg w (some x.b) r n

theorem hd_app (l r : List Wr) (n : Option Nat) : hd (l ++ r) n = hd l (hd r n) := by cases l <;> rfl
theorem lst_app : ∀ (l r : List Wr) (p : Option Nat), lst p (l ++ r) = lst (lst p l) r
  | [], _, _ => rfl
  | _ :: l, r, _ => lst_app l r _
theorem lst_snoc (l : List Wr) (x : Wr) (p : Option Nat) : lst p (l ++ [x]) = some x.b := by rw [lst_app]; rfl
theorem seg_app {w : World} : ∀ (l r : List Wr) (p n : Option Nat), Seg w p (l ++ r) n ↔ Seg w p l (hd r n) ∧ Seg w (lst p l) r n
  | [], r, p, n => by simp [Seg, lst]
  | x :: l, r, p, n => by
    simp only [List.cons_append, Seg, lst]
    rw [seg_app l r (some x.b) n, hd_app, and_assoc]
theorem seg_keep {w w' : World} : ∀ {l : List Wr} {p n : Option Nat}, Seg w p l n → (∀ x ∈ l, w'.heap[x.b]? = w.heap[x.b]?) → Seg w' p l n
  | [], _, _, _, _ => trivial
  | x :: r, p, n, h, hk => by
    refine ⟨?_, seg_keep h.2 (fun y hy => hk y (List.mem_cons_of_mem _ hy))⟩
    unfold WrAt
    rw [hk x List.mem_cons_self]
    exact h.1
theorem seg_mem {w : World} : ∀ {l : List Wr} {p n : Option Nat}, Seg w p l n → ∀ x ∈ l, ∃ a h, WrAt w x a h
  | [], _, _, _, x, hx => by simp at hx
  | y :: r, p, n, h, x, hx => by
    rcases List.mem_cons.1 hx with rfl | hx
    · exact ⟨_, _, h.1⟩
    · exact seg_mem h.2 x hx
theorem seg_lt {w : World} {l : List Wr} {p n : Option Nat} (h : Seg w p l n) : ∀ x ∈ l, x.b < w.heap.size := fun x hx => by
  obtain ⟨_, _, h⟩ := seg_mem h x hx
  exact lt_of_block h
/-- what comes behind the last one is another one -/
theorem seg_next {w : World} {l : List Wr} {x : Wr} {p n n' : Option Nat} (h : Seg w p (l ++ [x]) n) (hn : ∀ y ∈ l, y.b ≠ x.b) : Seg (w.setCell ⟨x.b, 5, none⟩ (ptr n')) p (l ++ [x]) n' := by
  rw [seg_app] at h ⊢
  refine ⟨seg_keep h.1 (fun y hy => Below.heap_setCell _ _ _ _ (hn y hy)), ?_, trivial⟩
  unfold WrAt
  rw [set_at h.2.1]
  rfl
/-- what comes ahead of the first one is another one -/
theorem seg_prev {w : World} {r : List Wr} {x : Wr} {p p' n : Option Nat} (h : Seg w p (x :: r) n) (hn : ∀ y ∈ r, y.b ≠ x.b) : Seg (w.setCell ⟨x.b, 4, none⟩ (ptr p')) p' (x :: r) n := by
  refine ⟨?_, seg_keep h.2 (fun y hy => Below.heap_setCell _ _ _ _ (hn y hy))⟩
  unfold WrAt
  rw [set_at h.1]
  rfl
/-- how much of one is kept -/
def Wr.keep (x : Wr) (k : Nat) : Wr := { x with kept := k }
theorem seg_kept {w : World} {l r : List Wr} {x : Wr} {p n : Option Nat} (h : Seg w p (l ++ x :: r) n) (hn : ∀ y ∈ l ++ r, y.b ≠ x.b) (k : Nat) : Seg (w.setCell ⟨x.b, 3, none⟩ (.int .i64 k)) p (l ++ x.keep k :: r) n := by
  rw [seg_app] at h ⊢
  refine ⟨seg_keep h.1 (fun y hy => Below.heap_setCell _ _ _ _ (hn y (by simp [hy]))), ?_, seg_keep h.2.2 (fun y hy => Below.heap_setCell _ _ _ _ (hn y (by simp [hy])))⟩
  unfold WrAt
  have := h.2.1
  unfold WrAt at this
  show (w.setCell ⟨x.b, 3, none⟩ _).heap[x.b]? = _
  rw [set_at this]
  rfl

/-- a sector: as it was written last; as it is safe; the last write of it that is not -/
structure Sec where
  now : ByteArray
  safe : ByteArray
  top : Option Nat
def Sec.cells (s : Sec) : List Value := [.string s.now, .string s.safe, ptr s.top]
def secsCells (l : List Sec) : List Value := l.flatMap Sec.cells
theorem secs_length (l : List Sec) : (secsCells l).length = l.length * 3 := by
  induction l with
  | nil => rfl
  | cons s r ih =>
    show (s.cells ++ secsCells r).length = _
    rw [List.length_append, ih, List.length_cons]
    simp [Sec.cells]
    omega
theorem secs_app (l r : List Sec) : secsCells (l ++ r) = secsCells l ++ secsCells r := by simp [secsCells]
theorem secs_at : ∀ (l : List Sec) (i : Nat) (s : Sec), l[i]? = some s → (secsCells l)[i * 3]? = some (.string s.now) ∧ (secsCells l)[i * 3 + 1]? = some (.string s.safe) ∧ (secsCells l)[i * 3 + 2]? = some (ptr s.top)
  | [], i, s, h => by simp at h
  | t :: r, 0, s, h => by
    obtain rfl : t = s := by simpa using h
    exact ⟨rfl, rfl, rfl⟩
  | t :: r, i + 1, s, h => by
    have := secs_at r i s (by simpa using h)
    have e : secsCells (t :: r) = .string t.now :: .string t.safe :: ptr t.top :: secsCells r := rfl
    rw [e, show (i + 1) * 3 = i * 3 + 1 + 1 + 1 by omega]
    simp only [List.getElem?_cons_succ]
    exact this
theorem secs_set : ∀ (l : List Sec) (i : Nat) (s : Sec), l[i]? = some s → ∀ t : Sec, secsCells (l.set i t) = (((secsCells l).set (i * 3) (.string t.now)).set (i * 3 + 1) (.string t.safe)).set (i * 3 + 2) (ptr t.top)
  | [], i, s, h, _ => by simp at h
  | u :: r, 0, s, h, t => rfl
  | u :: r, i + 1, s, h, t => by
    have := secs_set r i s (by simpa using h) t
    have e : ∀ (u : Sec) r, secsCells (u :: r) = .string u.now :: .string u.safe :: ptr u.top :: secsCells r := fun _ _ => rfl
    rw [List.set_cons_succ, e, e, this, show (i + 1) * 3 = i * 3 + 1 + 1 + 1 by omega]
    rfl

/-- a file: its block; the value of its row; sectors, how many are safe, whether it stays; its writes -/
structure Fl where
  b : Nat
  sl : Value
  secs : List Sec
  ns : Nat
  stays : Bool
  ws : List Wr

def Fl.cells (F : Fl) : Array Value := #[F.sl, .int .i64 F.ns, .bool F.stays, ptr (hd F.ws none), ptr (lst none F.ws), .int .i64 F.ws.length]
structure FileAt (w : World) (F : Fl) : Prop where
  blk : w.heap[F.b]? = some (.cells F.cells 148 (0, 0))
  row : w.ownsRow 0 143 3 F.sl F.secs.length (secsCells F.secs)
  seg : Seg w none F.ws none
  nodup : (F.ws.map (·.b)).Nodup

/-- the file's blocks -/
def Fl.foot (F : Fl) (k : Nat) : Prop := k = F.b ∨ F.sl.ownBlock = some k ∨ ∃ x ∈ F.ws, x.b = k

theorem owns_keep {w w' : World} {e : TypeId} {z n : Nat} {v : Value} {xs : List Value} (h : w.ownsRow 0 e z v n xs) (hk : ∀ g, v.ownBlock = some g → w'.heap[g]? = w.heap[g]?) : w'.ownsRow 0 e z v n xs := by
  refine ⟨h.1, ?_⟩
  rcases h.2 with h2 | ⟨g, cap, cur, rfl, h1, h2, h3⟩
  · exact .inl h2
  · exact .inr ⟨g, cap, cur, rfl, h1, (hk g rfl).trans h2, h3⟩
theorem owns_fr {S : Nat → Prop} {w w' : World} {e : TypeId} {z n : Nat} {v : Value} {xs : List Value} (h : w.ownsRow 0 e z v n xs) (hf : Fr S w w') (hS : ∀ g, v.ownBlock = some g → ¬ S g) : w'.ownsRow 0 e z v n xs :=
  owns_keep h (fun g hg => hf.block g (h.lt g hg).2 (hS g hg))
theorem FileAt.lt {w : World} {F : Fl} (h : FileAt w F) : ∀ k, F.foot k → k < w.heap.size := by
  rintro k (rfl | hk | ⟨x, hx, rfl⟩)
  · exact lt_of_block h.blk
  · exact (h.row.lt k hk).2
  · exact seg_lt h.seg x hx
theorem FileAt.fr {S : Nat → Prop} {w w' : World} {F : Fl} (h : FileAt w F) (hf : Fr S w w') (hS : ∀ k, F.foot k → ¬ S k) : FileAt w' F :=
  ⟨hf.keep h.blk (hS _ (.inl rfl)), owns_fr h.row hf (fun g hg => hS g (.inr (.inl hg))), seg_keep h.seg (fun x hx => hf.block x.b (seg_lt h.seg x hx) (hS _ (.inr (.inr ⟨x, hx, rfl⟩)))), h.nodup⟩
theorem FileAt.below {w w' : World} {F : Fl} (h : FileAt w F) (hf : Below w.heap.size w w') : FileAt w' F := h.fr (Fr.of (S := fun _ => False) hf) (fun _ _ => id)

/-- the row's block, where there are sectors -/
theorem owns_some {w : World} {e : TypeId} {z n : Nat} {v : Value} {xs : List Value} (h : w.ownsRow 0 e z v n xs) (hn : 0 < n) :
    ∃ g cap cur, v = .slice (some ⟨g, 0, none⟩) n cap ∧ w.heap[g]? = some (.cells cur e (0, 0)) ∧ n ≤ cap ∧ cap ≤ maxLen ∧ cur.size = cap * z ∧ cur.toList.take (n * z) = xs := by
  rcases h.2 with ⟨rfl, rfl⟩ | ⟨g, cap, cur, rfl, _, h2, h3, h4, h5, h6⟩
  · omega
  · exact ⟨g, cap, cur, rfl, h2, h3, h4, h5, h6⟩
theorem owns_shape {w : World} {e : TypeId} {z n : Nat} {v : Value} {xs : List Value} (h : w.ownsRow 0 e z v n xs) : ∃ a cap, v = .slice a n cap := by
  rcases h.2 with ⟨rfl, rfl⟩ | ⟨g, cap, cur, rfl, _⟩
  · exact ⟨_, _, rfl⟩
  · exact ⟨_, _, rfl⟩
theorem owns_cell {w : World} {e : TypeId} {z n g cap : Nat} {xs : List Value} (h : w.ownsRow 0 e z (.slice (some ⟨g, 0, none⟩) n cap) n xs) {j : Nat} {u : Value} (hj : xs[j]? = some u) : w.cell? ⟨g, j, none⟩ = some u := by
  have := h.cells (g := g) rfl j u hj
  by_cases e : j = 0
  · subst e; simpa [Addr.add] using this
  · simpa [Addr.add, e] using this
theorem owns_free {w : World} {e : TypeId} {z n g cap : Nat} {xs : List Value} (h : w.ownsRow 0 e z (.slice (some ⟨g, 0, none⟩) n cap) n xs) (j : Nat) : w.frozen? ⟨g, j, none⟩ = false := by
  rcases h.2 with ⟨h0, _⟩ | ⟨g', cap', cur, h0, _, h2, _⟩
  · simp at h0
  · simp only [Value.slice.injEq, Option.some.injEq, Addr.mk.injEq] at h0
    obtain ⟨⟨rfl, _⟩, _⟩ := h0
    exact free_at h2 j
/-- one cell of the row is written -/
theorem owns_set {w : World} {e : TypeId} {z n g cap : Nat} {xs : List Value} (h : w.ownsRow 0 e z (.slice (some ⟨g, 0, none⟩) n cap) n xs) (j : Nat) (u : Value) :
    (w.setCell ⟨g, j, none⟩ u).ownsRow 0 e z (.slice (some ⟨g, 0, none⟩) n cap) n (xs.set j u) := by
  refine ⟨by rw [List.length_set]; exact h.1, ?_⟩
  have hl := h.1
  rcases h.2 with ⟨h0, _⟩ | ⟨g', cap', cur, h0, h1, h2, h3, h4, h5, h6⟩
  · simp at h0
  · simp only [Value.slice.injEq, Option.some.injEq, Addr.mk.injEq] at h0
    obtain ⟨⟨rfl, _⟩, _, rfl⟩ := h0
    refine .inr ⟨g, cap, _, rfl, h1, set_at h2 j u, h3, h4, by simpa using h5, ?_⟩
    rw [Array.toList_setIfInBounds, List.take_set, h6]
theorem owns_lt {w : World} {e : TypeId} {z n g cap : Nat} {xs : List Value} (h : w.ownsRow 0 e z (.slice (some ⟨g, 0, none⟩) n cap) n xs) : g < w.heap.size := (h.lt g rfl).2
theorem owns_cap {w : World} {e : TypeId} {z n g cap : Nat} {xs : List Value} (h : w.ownsRow 0 e z (.slice (some ⟨g, 0, none⟩) n cap) n xs) : n ≤ cap ∧ cap ≤ maxLen := by
  rcases h.2 with ⟨h0, _⟩ | ⟨g', cap', cur, h0, h1, h2, h3, h4, h5, h6⟩
  · simp at h0
  · simp only [Value.slice.injEq, Option.some.injEq, Addr.mk.injEq] at h0
    obtain ⟨⟨rfl, _⟩, _, rfl⟩ := h0
    exact ⟨h3, h4⟩
/-- its sectors' block is none of a file's, nor a write's -/
theorem owns_ne {w : World} {e t : TypeId} {z n g cap b : Nat} {xs : List Value} {c : Array Value} {f : Nat × Nat} (h : w.ownsRow 0 e z (.slice (some ⟨g, 0, none⟩) n cap) n xs) (hb : w.heap[b]? = some (.cells c t f)) (ht : t ≠ e) : b ≠ g := by
  rcases h.2 with ⟨h0, _⟩ | ⟨g', cap', cur, h0, h1, h2, _⟩
  · simp at h0
  · simp only [Value.slice.injEq, Option.some.injEq, Addr.mk.injEq] at h0
    obtain ⟨⟨rfl, _⟩, _⟩ := h0
    rintro rfl
    rw [hb] at h2
    simp at h2
    exact ht h2.2.1
theorem block_ne {w : World} {a b : Nat} {c c' : Array Value} {t t' : TypeId} {f f' : Nat × Nat} (ha : w.heap[a]? = some (.cells c t f)) (hb : w.heap[b]? = some (.cells c' t' f')) (ht : t ≠ t') : a ≠ b := by
  rintro rfl
  rw [ha] at hb
  simp at hb
  exact ht hb.2.1

theorem heap_ext {w w' : World} {b : Nat} (h : w'.heap[b]? = w.heap[b]?) (j : Nat) : w'.cell? ⟨b, j, none⟩ = w.cell? ⟨b, j, none⟩ ∧ w'.frozen? ⟨b, j, none⟩ = w.frozen? ⟨b, j, none⟩ := by
  simp [World.cell?, World.frozen?, h]

end Go.Proofs.YtbkngnjkaledlaaGreat.P4
