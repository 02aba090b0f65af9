/-
  Package disk: ranges over a map that may be nil; a disk in memory. (Disk, part 16.)
-/
import Derived.Test.YtlgloikhdbmgdaaDk15
import Derived.Test.YtlgloikhdbmgdaaDk11
namespace Go.Proofs.Ytlgloikhdbmgdaa.P4
open Go Go.RowKit Go.Lib Go.Maps Go.ChangeMaps Go.MapKept Go.Proofs.Ytlgloikhdbmgdaa.P3

theorem writes_none (w : World) (d : Nat) (c0 : w.cell? ⟨d, 0, none⟩ = some (.map none)) : Calls Try.prog 40 #[.pointer (some ⟨d, 0, none⟩)] w (WritesPost w []) := by
  have hrg := fun w => run_range_nilMap (P := Try.prog) w 56 9 60 Try.underlying56
  have hnx := fun w ty => run_next_nilMap (P := Try.prog) w ty 0 0 #[]
  have HS := Lib.hid (fun w => sort_none none 0 (.func (.func 53) #[] #[]) w)
  go_enter Try.func40, Try.ntmps40
  go_wp2
  go_loopw [3] (fun v wr => v = .slice none 0 0 ∧ wr = w.alloc (.mapIter none 0 #[] 0)) (fun _ _ => 0)
  case atStart => exact ⟨rfl, rfl⟩
  case round =>
    obtain ⟨rfl, rfl⟩ := hrel
    go_wp2_with (go_at_call 52; (with_reducible refine (HS.out _).mono ?_); rintro e w2 ⟨rfl, rfl⟩)
    go_ret
    exact ⟨_, [], rfl, List.Perm.refl _, List.Pairwise.nil, ⟨⟨_, _, rfl⟩, fun h => absurd rfl h⟩, below_new _ _⟩
theorem writes_any (w : World) (d : Nat) (m : Option Nat) (L : Files) (c0 : w.cell? ⟨d, 0, none⟩ = some (.map m)) (hm : MapAt w m (dir L)) (hn : (L.map (·.1)).Nodup) (hF : FilesAt w L) (hnd : ((allW L).map (·.turn)).Nodup) (hl : (allW L).length ≤ 100000) :
    Calls Try.prog 40 #[.pointer (some ⟨d, 0, none⟩)] w (WritesPost w L) := by
  cases m with
  | some b => exact writes_some w d b L c0 hm hn hF hnd hl
  | none =>
    have hL : L = [] := by
      rcases hm with ⟨_, h⟩ | ⟨b, D, h, _⟩
      · exact List.map_eq_nil_iff.1 h
      · cases h
    subst hL
    exact writes_none w d c0

/-- .. of a map that may be nil -/
def RngO (w : World) (m : Option Nat) (r : Nat) (L : Dir) (lf : List UInt8 → Bool) (cnt : Nat) : Prop :=
  (m = none ∧ w.heap[r]? = some (.mapIter none 0 #[] 0) ∧ L = [] ∧ ∀ k, lf k = false) ∨ ∃ b, m = some b ∧ Rng w b r L lf cnt
theorem RngO.fr {S : Nat → Prop} {w w' : World} {m : Option Nat} {r : Nat} {L : Dir} {lf : List UInt8 → Bool} {cnt : Nat} (h : RngO w m r L lf cnt) (hf : Fr S w w') (hb : ∀ b, m = some b → ¬ S b) (hr : ¬ S r) : RngO w' m r L lf cnt := by
  rcases h with ⟨h1, h2, h3⟩ | ⟨b, rfl, h⟩
  · exact .inl ⟨h1, hf.keep h2 hr, h3⟩
  · exact .inr ⟨b, rfl, h.fr hf (hb b rfl) hr⟩
theorem RngO.map {w : World} {m : Option Nat} {r : Nat} {L : Dir} {lf : List UInt8 → Bool} {cnt : Nat} (h : RngO w m r L lf cnt) : MapAt w m L := by
  rcases h with ⟨rfl, h2, rfl, _⟩ | ⟨b, rfl, h⟩
  · exact .inl ⟨rfl, rfl⟩
  · exact h.map
theorem run_next_nil {P : Program} (w : World) (ty : TypeId) (r : Nat) (h : w.heap[r]? = some (.mapIter none 0 #[] 0)) : (Instr.next (.pointer (some ⟨r, 0, none⟩)) false ty).run P w = .ok (.tuple #[.bool false]) w := by
  simp only [Instr.next, getObj, Sem.run_bind, Sem.run, h, Result.andThen]
  rfl
theorem RngO.perm {w : World} {m : Option Nat} {r : Nat} {L L' : Dir} {lf : List UInt8 → Bool} {cnt : Nat} (h : RngO w m r L lf cnt) (hp : L.Perm L') : RngO w m r L' lf cnt := by
  rcases h with ⟨h1, h2, rfl, h3⟩ | ⟨b, rfl, n, D, left, h1, h2, h3⟩
  · exact .inl ⟨h1, h2, hp.nil_eq.symm, h3⟩
  · exact .inr ⟨b, rfl, n, D, left, h1, ⟨by rw [h2.size, hp.length_eq], fun k c hk => h2.here k c (hp.mem_iff.2 hk), fun k hk => by obtain ⟨c, hc⟩ := h2.has k hk; exact ⟨c, hp.mem_iff.1 hc⟩⟩, h3⟩
theorem looks_perm {w : World} {m : Option Nat} {L L' : Dir} (h : MapAt w m L) (hp : L.Perm L') : MapAt w m L' := by
  rcases h with ⟨h1, rfl⟩ | ⟨b, D, rfl, h1, h2⟩
  · exact .inl ⟨h1, hp.nil_eq.symm⟩
  · exact .inr ⟨b, D, rfl, by rw [← hp.length_eq]; exact h1, ⟨by rw [h2.size, hp.length_eq], fun k c hk => h2.here k c (hp.mem_iff.2 hk), fun k hk => by obtain ⟨c, hc⟩ := h2.has k hk; exact ⟨c, hp.mem_iff.1 hc⟩⟩⟩

section
variable {w : World} {ops : Array Oper} {rest : List Oper} {o : Oper} {a : Act} {Q : Exit → Act → World → Prop}
theorem wpList_range_o (hg : o.guard = none) (m : Operand) (hop : o.op = Op.range 56 m) (b : Option Nat) (L : Dir) (hm : a.eval m = .map b) (h : MapAt w b L)
    (hK : ∀ w', RngO w' b w.heap.size L (fun k => (lk L k).isSome) L.length → Below w.heap.size w w' → w'.heap.size = w.heap.size + 1 → wpList Try.prog ops Q rest (a.put o.dst (.pointer (some ⟨w.heap.size, 0, none⟩))) w') :
    wpList Try.prog ops Q (o :: rest) a w := by
  cases b with
  | some b => exact wpList_range_sf hg m hop b L hm h fun w' h1 h2 h3 => hK w' (.inr ⟨b, rfl, h1⟩) h2 h3
  | none =>
    have hL : L = [] := by
      rcases h with ⟨_, h⟩ | ⟨b, D, h, _⟩
      · exact h
      · cases h
    subst hL
    refine wpList_plain hg fun K' hK' => ?_
    have hrun := run_range_nilMap (P := Try.prog) w 56 9 60 Try.underlying56
    unfold Oper.wp
    simp [execOp, hop, hm, hrun, Result.andThen]
    exact hK' _ _ (hK _ (.inl ⟨rfl, heap_alloc_new w _, rfl, fun k => rfl⟩) (below_new _ _) (by simp))
theorem wpList_next_o (hg : o.guard = none) (it : Operand) (hop : o.op = Op.next it false) (m : Option Nat) (r : Nat) (L : Dir) (lf : List UInt8 → Bool) (cnt : Nat) (hit : a.eval it = .pointer (some ⟨r, 0, none⟩)) (h : RngO w m r L lf cnt)
    (hDone : (∀ k, lf k = false) → wpList Try.prog ops Q rest (a.put o.dst (.tuple #[.bool false])) w)
    (hMore : ∀ (s : ByteArray) (fb : Nat) (w' : World) (cnt' : Nat), s.size ≤ maxLen → (s.data.toList, fb) ∈ L → lf s.data.toList = true → RngO w' m r L (fun k => lf k && !(k == s.data.toList)) cnt' → cnt' < cnt →
      Only r w w' → w'.heap.size = w.heap.size → (Instr.entry (.pointer (some ⟨r, 0, none⟩))).run Try.prog w' = .ok (.tuple #[.string s, .pointer (some ⟨fb, 0, none⟩)]) w' → wpList Try.prog ops Q rest (a.put o.dst (.tuple #[.bool true, .string s, .pointer (some ⟨fb, 0, none⟩)])) w') :
    wpList Try.prog ops Q (o :: rest) a w := by
  rcases h with ⟨rfl, h2, rfl, h3⟩ | ⟨b, rfl, h⟩
  · refine wpList_plain hg fun K' hK' => ?_
    have hrun := fun ty => run_next_nil (P := Try.prog) w ty r h2
    unfold Oper.wp
    simp [execOp, hop, hit, hrun, Result.andThen]
    exact hK' _ _ (hDone h3)
  · exact wpList_next_sf hg it hop b r L lf cnt hit h hDone fun s fb w' cnt' h1 h2 h3 h4 => hMore s fb w' cnt' h1 h2 h3 (.inr ⟨b, rfl, h4⟩)
theorem wpList_delete_o (hg : o.guard = none) (mo x : Operand) (hop : o.op = Op.call { callee := Callee.builtin Builtin.delete, args := #[mo, x], argTypes := #[56, 9] }) (m : Option Nat) (r : Nat) (L : Dir) (lf : List UInt8 → Bool) (cnt : Nat) (hn : (L.map (·.1)).Nodup)
    (hm : a.eval mo = .map m) (h : RngO w m r L lf cnt) (hne : m ≠ none) (s : ByteArray) (hs : s.size ≤ maxLen) (hx : a.eval x = .string s)
    (hK : ∀ b w' cnt', m = some b → RngO w' m r (delL L s.data.toList) (fun k => lf k && !(k == s.data.toList)) cnt' → cnt' ≤ cnt → Only b w w' → w'.heap.size = w.heap.size → wpList Try.prog ops Q rest (a.put o.dst (.tuple #[])) w') :
    wpList Try.prog ops Q (o :: rest) a w := by
  rcases h with ⟨rfl, _⟩ | ⟨b, rfl, h⟩
  · exact absurd rfl hne
  · exact wpList_delete_sf hg mo x hop b r L lf cnt hn hm h s hs hx fun w' cnt' h1 h2 h3 h4 => hK b w' cnt' rfl (.inr ⟨b, rfl, h1⟩) h2 h3 h4
end

/-- a disk: its map's block, its files, whether it has power, its room, its turn, how it is armed -/
structure Dk where
  m : Option Nat
  files : Files
  on : Bool
  room : Int
  turn : Nat
  armed : Bool
  left : Int
  kv : Value
  keep : List Int
def Dk.cells (K : Dk) : Array Value := #[.map K.m, .bool K.on, .int .i64 K.room, .int .i64 K.turn, .bool K.armed, .int .i64 K.left, K.kv]
def ivs (l : List Int) : List Value := l.map (Value.int .i64)

/-- files that are well, and share nothing -/
structure FilesOk (w : World) (L : Files) : Prop where
  at' : FilesAt w L
  ok : ∀ p ∈ L, FileOk p.2
  names : (L.map (·.1)).Nodup
  apart : L.Pairwise (fun p q => ∀ k, p.2.foot k → ¬ q.2.foot k)
  few : L.length ≤ 60
  long : ∀ p ∈ L, p.1.length ≤ 40
  tnd : ((allW L).map (·.turn)).Nodup
/-- block d is the disk K -/
structure DiskAt (w : World) (d : Nat) (K : Dk) : Prop where
  blk : w.heap[d]? = some (.cells K.cells 58 (0, 0))
  keep : w.ownsRow 0 3 1 K.kv K.keep.length (ivs K.keep)
  map : MapAt w K.m (dir K.files)
  files : FilesOk w K.files
  still : ∀ x ∈ allW K.files, x.kept = 0
  turns : ∀ x ∈ allW K.files, x.turn ≤ K.turn
  many : (allW K.files).length ≤ K.turn ∧ K.turn ≤ 9000
/-- the disk's blocks -/
def Dk.foot (K : Dk) (d k : Nat) : Prop := k = d ∨ K.m = some k ∨ (∃ p ∈ K.files, p.2.foot k) ∨ K.kv.ownBlock = some k

theorem files_pair {L : Files} (hp : L.Pairwise (fun p q => ∀ k, p.2.foot k → ¬ q.2.foot k)) {p q : List UInt8 × Fl} (h1 : p ∈ L) (h2 : q ∈ L) (hne : p ≠ q) : ∀ k, p.2.foot k → ¬ q.2.foot k := by
  induction L with
  | nil => simp at h1
  | cons a r ih =>
    rw [List.pairwise_cons] at hp
    rcases List.mem_cons.1 h1 with e1 | m1
    · rcases List.mem_cons.1 h2 with e2 | m2
      · exact absurd (e1.trans e2.symm) hne
      · rw [e1]; exact hp.1 q m2
    · rcases List.mem_cons.1 h2 with e2 | m2
      · rw [e2]; exact fun k a b => hp.1 p m1 k b a
      · exact ih hp.2 m1 m2
theorem DiskAt.foot_lt {w : World} {d : Nat} {K : Dk} (h : DiskAt w d K) : ∀ k, K.foot d k → k < w.heap.size := by
  rintro k (rfl | hk | ⟨p, hp, hk⟩ | hk)
  · exact lt_of_block h.blk
  · rcases h.map with ⟨h1, _⟩ | ⟨b, D, h1, ho, _⟩
    · rw [h1] at hk; cases hk
    · rw [h1] at hk
      obtain rfl : b = k := by simpa using hk
      exact ho.lt
  · exact (h.files.at' p hp).lt k hk
  · exact (h.keep.lt k hk).2
theorem DiskAt.fr {S : Nat → Prop} {w w' : World} {d : Nat} {K : Dk} (h : DiskAt w d K) (hf : Fr S w w') (hS : ∀ k, K.foot d k → ¬ S k) : DiskAt w' d K :=
  { h with
    blk := hf.keep h.blk (hS d (.inl rfl))
    keep := owns_fr h.keep hf (fun g hg => hS g (.inr (.inr (.inr hg))))
    map := h.map.fr hf (fun b hb => hS b (.inr (.inl hb)))
    files := { h.files with at' := fun p hp => (h.files.at' p hp).fr hf (fun k hk => hS k (.inr (.inr (.inl ⟨p, hp, hk⟩)))) } }
theorem DiskAt.below {w w' : World} {d : Nat} {K : Dk} (h : DiskAt w d K) (hf : Below w.heap.size w w') : DiskAt w' d K := h.fr (Fr.of (S := fun _ => False) hf) (fun _ _ => id)

end Go.Proofs.Ytlgloikhdbmgdaa.P4
