/-
  Texts of the proof of SaidKeeps8, side by side: Dk16, Dk17.
-/
import Derived.Test.YtbkngnjkaledlaaGreatMk11
import Derived.Test.YtbkngnjkaledlaaGreatMk13
/-
  Package disk: ranges over a map that may be nil; a disk in memory. (Disk, part 16.)
-/
namespace Go.Proofs.YtbkngnjkaledlaaGreat.P4
open Go Go.RowKit Go.Lib Go.Maps Go.ChangeMaps Go.MapKept Go.Proofs.YtbkngnjkaledlaaGreat.P3

theorem writes_none (w : World) (d : Nat) (c0 : w.cell? ⟨d, 0, none⟩ = some (.map none)) : Calls Tryz.prog 80 #[.pointer (some ⟨d, 0, none⟩)] w (WritesPost w []) := by
  have hrg := fun w => run_range_nilMap (P := Tryz.prog) w 71 9 124 Tryz.underlying71
  have hnx := fun w ty => run_next_nilMap (P := Tryz.prog) w ty 0 0 #[]
  have HS := Lib.hid (fun w => sort_none none 0 (.func (.func 116) #[] #[]) w)
  go_enter Tryz.func80, Tryz.ntmps80
  go_wp2
  go_loopw [3] (fun v wr => v = .slice none 0 0 ∧ wr = w.alloc (.mapIter none 0 #[] 0)) (fun _ _ => 0)
  case atStart => exact ⟨rfl, rfl⟩
  case round =>
    obtain ⟨rfl, rfl⟩ := hrel
    go_wp2_with (go_at_call 115; (with_reducible refine (HS.out _).mono ?_); rintro e w2 ⟨rfl, rfl⟩)
    go_ret
    exact ⟨_, [], rfl, List.Perm.refl _, List.Pairwise.nil, ⟨⟨_, _, rfl⟩, fun h => absurd rfl h⟩, below_new _ _⟩
theorem writes_any (w : World) (d : Nat) (m : Option Nat) (L : Files) (c0 : w.cell? ⟨d, 0, none⟩ = some (.map m)) (hm : MapAt w m (dir L)) (hn : (L.map (·.1)).Nodup) (hF : FilesAt w L) (hnd : ((allW L).map (·.turn)).Nodup) (hl : (allW L).length ≤ 100000) :
    Calls Tryz.prog 80 #[.pointer (some ⟨d, 0, none⟩)] w (WritesPost w L) := by
  cases m with
  | some b => exact writes_some w d b L c0 hm hn hF hnd hl
  | none =>
    have hL : L = [] := by
      rcases hm with ⟨_, h⟩ | ⟨b, D, h, _⟩
      · exact List.map_eq_nil_iff.1 h
      · cases h
    subst hL
    exact writes_none w d c0

/-- .. of a map that may be nil -/
def RngO (w : World) (m : Option Nat) (r : Nat) (L : Dir) (lf : List UInt8 → Bool) (cnt : Nat) : Prop :=
  (m = none ∧ w.heap[r]? = some (.mapIter none 0 #[] 0) ∧ L = [] ∧ ∀ k, lf k = false) ∨ ∃ b, m = some b ∧ Rng w b r L lf cnt
theorem RngO.fr {S : Nat → Prop} {w w' : World} {m : Option Nat} {r : Nat} {L : Dir} {lf : List UInt8 → Bool} {cnt : Nat} (h : RngO w m r L lf cnt) (hf : Fr S w w') (hb : ∀ b, m = some b → ¬ S b) (hr : ¬ S r) : RngO w' m r L lf cnt := by
  rcases h with ⟨h1, h2, h3⟩ | ⟨b, rfl, h⟩
  · exact .inl ⟨h1, hf.keep h2 hr, h3⟩
  · exact .inr ⟨b, rfl, h.fr hf (hb b rfl) hr⟩
theorem RngO.map {w : World} {m : Option Nat} {r : Nat} {L : Dir} {lf : List UInt8 → Bool} {cnt : Nat} (h : RngO w m r L lf cnt) : MapAt w m L := by
  rcases h with ⟨rfl, h2, rfl, _⟩ | ⟨b, rfl, h⟩
  · exact .inl ⟨rfl, rfl⟩
  · exact h.map
theorem run_next_nil {P : Program} (w : World) (ty : TypeId) (r : Nat) (h : w.heap[r]? = some (.mapIter none 0 #[] 0)) : (Instr.next (.pointer (some ⟨r, 0, none⟩)) false ty).run P w = .ok (.tuple #[.bool false]) w := by
  simp only [Instr.next, getObj, Sem.run_bind, Sem.run, h, Result.andThen]
  rfl
theorem RngO.perm {w : World} {m : Option Nat} {r : Nat} {L L' : Dir} {lf : List UInt8 → Bool} {cnt : Nat} (h : RngO w m r L lf cnt) (hp : L.Perm L') : RngO w m r L' lf cnt := by
  rcases h with ⟨h1, h2, rfl, h3⟩ | ⟨b, rfl, n, D, left, h1, h2, h3⟩
  · exact .inl ⟨h1, h2, hp.nil_eq.symm, h3⟩
  · exact .inr ⟨b, rfl, n, D, left, h1, ⟨by rw [h2.size, hp.length_eq], fun k c hk => h2.here k c (hp.mem_iff.2 hk), fun k hk => by obtain ⟨c, hc⟩ := h2.has k hk; exact ⟨c, hp.mem_iff.1 hc⟩⟩, h3⟩
theorem looks_perm {w : World} {m : Option Nat} {L L' : Dir} (h : MapAt w m L) (hp : L.Perm L') : MapAt w m L' := by
  rcases h with ⟨h1, rfl⟩ | ⟨b, D, rfl, h1, h2⟩
  · exact .inl ⟨h1, hp.nil_eq.symm⟩
  · exact .inr ⟨b, D, rfl, by rw [← hp.length_eq]; exact h1, ⟨by rw [h2.size, hp.length_eq], fun k c hk => h2.here k c (hp.mem_iff.2 hk), fun k hk => by obtain ⟨c, hc⟩ := h2.has k hk; exact ⟨c, hp.mem_iff.1 hc⟩⟩⟩

section
variable {w : World} {ops : Array Oper} {rest : List Oper} {o : Oper} {a : Act} {Q : Exit → Act → World → Prop}
theorem wpList_range_o (hg : o.guard = none) (m : Operand) (hop : o.op = Op.range 71 m) (b : Option Nat) (L : Dir) (hm : a.eval m = .map b) (h : MapAt w b L)
    (hK : ∀ w', RngO w' b w.heap.size L (fun k => (lk L k).isSome) L.length → Below w.heap.size w w' → w'.heap.size = w.heap.size + 1 → wpList Tryz.prog ops Q rest (a.put o.dst (.pointer (some ⟨w.heap.size, 0, none⟩))) w') :
    wpList Tryz.prog ops Q (o :: rest) a w := by
  cases b with
  | some b => exact wpList_range_sf hg m hop b L hm h fun w' h1 h2 h3 => hK w' (.inr ⟨b, rfl, h1⟩) h2 h3
  | none =>
    have hL : L = [] := by
      rcases h with ⟨_, h⟩ | ⟨b, D, h, _⟩
      · exact h
      · cases h
    subst hL
    refine wpList_plain hg fun K' hK' => ?_
    have hrun := run_range_nilMap (P := Tryz.prog) w 71 9 124 Tryz.underlying71
    unfold Oper.wp
    simp [execOp, hop, hm, hrun, Result.andThen]
    exact hK' _ _ (hK _ (.inl ⟨rfl, heap_alloc_new w _, rfl, fun k => rfl⟩) (below_new _ _) (by simp))
theorem wpList_next_o (hg : o.guard = none) (it : Operand) (hop : o.op = Op.next it false) (m : Option Nat) (r : Nat) (L : Dir) (lf : List UInt8 → Bool) (cnt : Nat) (hit : a.eval it = .pointer (some ⟨r, 0, none⟩)) (h : RngO w m r L lf cnt)
    (hDone : (∀ k, lf k = false) → wpList Tryz.prog ops Q rest (a.put o.dst (.tuple #[.bool false])) w)
    (hMore : ∀ (s : ByteArray) (fb : Nat) (w' : World) (cnt' : Nat), s.size ≤ maxLen → (s.data.toList, fb) ∈ L → lf s.data.toList = true → RngO w' m r L (fun k => lf k && !(k == s.data.toList)) cnt' → cnt' < cnt →
      Only r w w' → w'.heap.size = w.heap.size → (Instr.entry (.pointer (some ⟨r, 0, none⟩))).run Tryz.prog w' = .ok (.tuple #[.string s, .pointer (some ⟨fb, 0, none⟩)]) w' → wpList Tryz.prog ops Q rest (a.put o.dst (.tuple #[.bool true, .string s, .pointer (some ⟨fb, 0, none⟩)])) w') :
    wpList Tryz.prog ops Q (o :: rest) a w := by
  rcases h with ⟨rfl, h2, rfl, h3⟩ | ⟨b, rfl, h⟩
  · refine wpList_plain hg fun K' hK' => ?_
    have hrun := fun ty => run_next_nil (P := Tryz.prog) w ty r h2
    unfold Oper.wp
    simp [execOp, hop, hit, hrun, Result.andThen]
    exact hK' _ _ (hDone h3)
  · exact wpList_next_sf hg it hop b r L lf cnt hit h hDone fun s fb w' cnt' h1 h2 h3 h4 => hMore s fb w' cnt' h1 h2 h3 (.inr ⟨b, rfl, h4⟩)
theorem wpList_delete_o (hg : o.guard = none) (mo x : Operand) (hop : o.op = Op.call { callee := Callee.builtin Builtin.delete, args := #[mo, x], argTypes := #[71, 9] }) (m : Option Nat) (r : Nat) (L : Dir) (lf : List UInt8 → Bool) (cnt : Nat) (hn : (L.map (·.1)).Nodup)
    (hm : a.eval mo = .map m) (h : RngO w m r L lf cnt) (hne : m ≠ none) (s : ByteArray) (hs : s.size ≤ maxLen) (hx : a.eval x = .string s)
    (hK : ∀ b w' cnt', m = some b → RngO w' m r (delL L s.data.toList) (fun k => lf k && !(k == s.data.toList)) cnt' → cnt' ≤ cnt → Only b w w' → w'.heap.size = w.heap.size → wpList Tryz.prog ops Q rest (a.put o.dst (.tuple #[])) w') :
    wpList Tryz.prog ops Q (o :: rest) a w := by
  rcases h with ⟨rfl, _⟩ | ⟨b, rfl, h⟩
  · exact absurd rfl hne
  · exact wpList_delete_sf hg mo x hop b r L lf cnt hn hm h s hs hx fun w' cnt' h1 h2 h3 h4 => hK b w' cnt' rfl (.inr ⟨b, rfl, h1⟩) h2 h3 h4
end

/-- a disk: its map's block, its files, whether it has power, its room, its turn, how it is armed -/
structure Dk where
  m : Option Nat
  files : Files
  on : Bool
  room : Int
  turn : Nat
  armed : Bool
  left : Int
  kv : Value
  keep : List Int
def Dk.cells (K : Dk) : Array Value := #[.map K.m, .bool K.on, .int .i64 K.room, .int .i64 K.turn, .bool K.armed, .int .i64 K.left, K.kv]
def ivs (l : List Int) : List Value := l.map (Value.int .i64)

/-- files that are well, and share nothing -/
structure FilesOk (w : World) (L : Files) : Prop where
  at' : FilesAt w L
  ok : ∀ p ∈ L, FileOk p.2
  names : (L.map (·.1)).Nodup
  apart : L.Pairwise (fun p q => ∀ k, p.2.foot k → ¬ q.2.foot k)
  few : L.length ≤ 60
  long : ∀ p ∈ L, p.1.length ≤ 40
  tnd : ((allW L).map (·.turn)).Nodup
/-- block d is the disk K -/
structure DiskAt (w : World) (d : Nat) (K : Dk) : Prop where
  blk : w.heap[d]? = some (.cells K.cells 73 (0, 0))
  keep : w.ownsRow 0 3 1 K.kv K.keep.length (ivs K.keep)
  map : MapAt w K.m (dir K.files)
  files : FilesOk w K.files
  still : ∀ x ∈ allW K.files, x.kept = 0
  turns : ∀ x ∈ allW K.files, x.turn ≤ K.turn
  many : (allW K.files).length ≤ K.turn ∧ K.turn ≤ 9000
/-- the disk's blocks -/
def Dk.foot (K : Dk) (d k : Nat) : Prop := k = d ∨ K.m = some k ∨ (∃ p ∈ K.files, p.2.foot k) ∨ K.kv.ownBlock = some k

theorem files_pair {L : Files} (hp : L.Pairwise (fun p q => ∀ k, p.2.foot k → ¬ q.2.foot k)) {p q : List UInt8 × Fl} (h1 : p ∈ L) (h2 : q ∈ L) (hne : p ≠ q) : ∀ k, p.2.foot k → ¬ q.2.foot k := by
  induction L with
  | nil => simp at h1
  | cons a r ih =>
    rw [List.pairwise_cons] at hp
    rcases List.mem_cons.1 h1 with e1 | m1
    · rcases List.mem_cons.1 h2 with e2 | m2
      · exact absurd (e1.trans e2.symm) hne
      · rw [e1]; exact hp.1 q m2
    · rcases List.mem_cons.1 h2 with e2 | m2
      · rw [e2]; exact fun k a b => hp.1 p m1 k b a
      · exact ih hp.2 m1 m2
theorem DiskAt.foot_lt {w : World} {d : Nat} {K : Dk} (h : DiskAt w d K) : ∀ k, K.foot d k → k < w.heap.size := by
  rintro k (rfl | hk | ⟨p, hp, hk⟩ | hk)
  · exact lt_of_block h.blk
  · rcases h.map with ⟨h1, _⟩ | ⟨b, D, h1, ho, _⟩
    · rw [h1] at hk; cases hk
    · rw [h1] at hk
      obtain rfl : b = k := by simpa using hk
      exact ho.lt
  · exact (h.files.at' p hp).lt k hk
  · exact (h.keep.lt k hk).2
theorem DiskAt.fr {S : Nat → Prop} {w w' : World} {d : Nat} {K : Dk} (h : DiskAt w d K) (hf : Fr S w w') (hS : ∀ k, K.foot d k → ¬ S k) : DiskAt w' d K :=
  { h with
    blk := hf.keep h.blk (hS d (.inl rfl))
    keep := owns_fr h.keep hf (fun g hg => hS g (.inr (.inr (.inr hg))))
    map := h.map.fr hf (fun b hb => hS b (.inr (.inl hb)))
    files := { h.files with at' := fun p hp => (h.files.at' p hp).fr hf (fun k hk => hS k (.inr (.inr (.inl ⟨p, hp, hk⟩)))) } }
theorem DiskAt.below {w w' : World} {d : Nat} {K : Dk} (h : DiskAt w d K) (hf : Below w.heap.size w w') : DiskAt w' d K := h.fr (Fr.of (S := fun _ => False) hf) (fun _ _ => id)

end Go.Proofs.YtbkngnjkaledlaaGreat.P4

/-
  Package disk: how much a crash keeps of each write. (Disk, part 17.)
-/
namespace Go.Proofs.YtbkngnjkaledlaaGreat.P4
open Go Go.RowKit Go.Lib Go.Maps Go.ChangeMaps Go.MapKept Go.Proofs.YtbkngnjkaledlaaGreat.P3

/-- how many writes came ahead of turn t -/
def rankW (l : List Wr) (t : Nat) : Nat := (l.filter (fun x => decide (x.turn < t))).length
/-- from 0 to a sector's size -/
def clampI (k : Int) : Nat := (min (max k 0) 256).toNat
theorem clamp_le (k : Int) : clampI k ≤ 256 := by unfold clampI; omega
/-- how much is kept of the write of turn t -/
def keptOf (l : List Wr) (ks : List Int) (t : Nat) : Nat := clampI (ks.getD (rankW l t) 0)
theorem kept_le (l : List Wr) (ks : List Int) (t : Nat) : keptOf l ks t ≤ 256 := clamp_le _
theorem rank_perm {l m : List Wr} (h : l.Perm m) (t : Nat) : rankW l t = rankW m t := (h.filter _).length_eq
theorem rank_at {ys : List Wr} (hs : ys.Pairwise (fun x y => x.turn < y.turn)) {i : Nat} {x : Wr} (hx : ys[i]? = some x) : rankW ys x.turn = i := by
  obtain ⟨hi, hxe⟩ := List.getElem?_eq_some_iff.1 hx
  have e : ys = ys.take i ++ x :: ys.drop (i + 1) := by
    rw [← hxe, List.getElem_cons_drop, List.take_append_drop]
  have hs2 := hs
  rw [e, List.pairwise_append, List.pairwise_cons] at hs2
  unfold rankW
  conv => lhs; rw [e]
  rw [List.filter_append, List.filter_cons_of_neg (by simp), List.filter_eq_self.2 (fun y hy => by simpa using hs2.2.2 y hy x (by simp)), List.filter_eq_nil_iff.2 (fun y hy => by have := hs2.2.1.1 y hy; simp; omega)]
  rw [List.append_nil, List.length_take]
  omega

/-- the writes of these turns are marked -/
def markW (κ : Nat → Nat) (T : List Nat) (x : Wr) : Wr := x.keep (if x.turn ∈ T then κ x.turn else 0)
def markF (κ : Nat → Nat) (T : List Nat) (F : Fl) : Fl := { F with ws := F.ws.map (markW κ T) }
def markL (κ : Nat → Nat) (T : List Nat) (L : Files) : Files := L.map fun p => (p.1, markF κ T p.2)
theorem markW_b (κ : Nat → Nat) (T : List Nat) (x : Wr) : (markW κ T x).b = x.b := rfl
theorem markF_foot (κ : Nat → Nat) (T : List Nat) (F : Fl) (k : Nat) : (markF κ T F).foot k ↔ F.foot k := by
  unfold Fl.foot markF
  constructor
  · rintro (h | h | ⟨x, hx, h⟩)
    · exact .inl h
    · exact .inr (.inl h)
    · obtain ⟨y, hy, rfl⟩ := List.mem_map.1 hx
      exact .inr (.inr ⟨y, hy, h⟩)
  · rintro (h | h | ⟨x, hx, h⟩)
    · exact .inl h
    · exact .inr (.inl h)
    · exact .inr (.inr ⟨_, List.mem_map.2 ⟨x, hx, rfl⟩, h⟩)
theorem keep_same (x : Wr) (h : x.kept = 0) : x.keep 0 = x := by cases x; simp_all [Wr.keep]
theorem mark_nil (κ : Nat → Nat) {L : Files} (h : ∀ x ∈ allW L, x.kept = 0) : markL κ [] L = L := by
  unfold markL
  have : ∀ p ∈ L, (p.1, markF κ [] p.2) = p := by
    intro p hp
    unfold markF
    have e : p.2.ws.map (markW κ []) = p.2.ws := by
      rw [List.map_congr_left (g := id)]
      · exact List.map_id _
      · intro x hx
        unfold markW
        simp only [List.not_mem_nil, if_false]
        exact keep_same x (h x (allW_mem.2 ⟨p, hp, hx⟩))
    rw [e]
  exact (List.map_congr_left (g := id) this).trans (List.map_id _)
theorem mark_zero (κ : Nat → Nat) (T : List Nat) (t : Nat) (L : Files) (h : κ t = 0) : markL κ (T ++ [t]) L = markL κ T L := by
  unfold markL
  refine List.map_congr_left (fun p _ => ?_)
  unfold markF
  have e : p.2.ws.map (markW κ (T ++ [t])) = p.2.ws.map (markW κ T) := by
    refine List.map_congr_left (fun x _ => ?_)
    unfold markW
    by_cases e : x.turn = t
    · rw [if_pos (by simp [e]), e, h]
      split <;> simp
    · have : x.turn ∈ T ++ [t] ↔ x.turn ∈ T := by simp [e]
      simp only [this]
  rw [e]
theorem turn_inj {l : List Wr} (hn : (l.map (·.turn)).Nodup) {a b : Wr} (ha : a ∈ l) (hb : b ∈ l) (e : a.turn = b.turn) : a = b := by
  induction l with
  | nil => simp at ha
  | cons p r ih =>
    rw [List.map_cons, List.nodup_cons] at hn
    rcases List.mem_cons.1 ha with ea | ma
    · rcases List.mem_cons.1 hb with eb | mb
      · rw [ea, eb]
      · exact absurd (List.mem_map.2 ⟨b, mb, by rw [← e, ea]⟩) hn.1
    · rcases List.mem_cons.1 hb with eb | mb
      · exact absurd (List.mem_map.2 ⟨a, ma, by rw [e, eb]⟩) hn.1
      · exact ih hn.2 ma mb
theorem mark_map {κ : Nat → Nat} {T : List Nat} {t : Nat} {l : List Wr} (h : ∀ y ∈ l, y.turn ≠ t) : l.map (markW κ (T ++ [t])) = l.map (markW κ T) := by
  refine List.map_congr_left (fun y hy => ?_)
  unfold markW
  have : y.turn ∈ T ++ [t] ↔ y.turn ∈ T := by simp [h y hy]
  simp only [this]

/-- one more write is marked, in memory -/
theorem mark_step {w : World} {L : Files} {κ : Nat → Nat} {T : List Nat} {x : Wr} (h : FilesAt w (markL κ T L)) (hap : L.Pairwise (fun p q => ∀ k, p.2.foot k → ¬ q.2.foot k)) (hnd : ((allW L).map (·.turn)).Nodup) (hx : x ∈ allW L) (hT : x.turn ∉ T) :
    FilesAt (w.setCell ⟨x.b, 3, none⟩ (.int .i64 (κ x.turn : Nat))) (markL κ (T ++ [x.turn]) L) := by
  intro q hq
  obtain ⟨p, hp, rfl⟩ := List.mem_map.1 hq
  have hF : FileAt w (markF κ T p.2) := h _ (List.mem_map.2 ⟨p, hp, rfl⟩)
  obtain ⟨px, hpx, hxw⟩ := allW_mem.1 hx
  by_cases hin : x ∈ p.2.ws
  · obtain ⟨l, r, e⟩ := List.append_of_mem hin
    have hno : ∀ y ∈ l ++ r, y.turn ≠ x.turn := by
      intro y hy et
      have hnd2 : (p.2.ws.map (·.turn)).Nodup := by
        have : (p.2.ws).Sublist (allW L) := by
          unfold allW
          obtain ⟨a, b, e2⟩ := List.append_of_mem hp
          rw [e2, List.flatMap_append, List.flatMap_cons]
          exact (List.sublist_append_left _ _).trans (List.sublist_append_right _ _)
        exact (this.map _).nodup hnd
      rw [e, List.map_append, List.map_cons] at hnd2
      have hp2 : (l.map (·.turn) ++ x.turn :: r.map (·.turn)).Perm (x.turn :: (l.map (·.turn) ++ r.map (·.turn))) := List.perm_middle
      have h3 := hp2.nodup_iff.1 hnd2
      rw [List.nodup_cons, ← List.map_append] at h3
      exact h3.1 (List.mem_map.2 ⟨y, hy, et⟩)
    have e1 : p.2.ws.map (markW κ T) = l.map (markW κ T) ++ markW κ T x :: r.map (markW κ T) := by rw [e]; simp
    have e2 : p.2.ws.map (markW κ (T ++ [x.turn])) = l.map (markW κ T) ++ (markW κ T x).keep (κ x.turn) :: r.map (markW κ T) := by
      rw [e, List.map_append, List.map_cons, mark_map (fun y hy => hno y (List.mem_append_left _ hy)), mark_map (fun y hy => hno y (List.mem_append_right _ hy))]
      congr 2
      unfold markW
      rw [if_pos (by simp)]
      rfl
    have hseg := hF.seg
    have hsegs : Seg w none (l.map (markW κ T) ++ markW κ T x :: r.map (markW κ T)) none := by rw [← e1]; exact hseg
    have hnb : ((l.map (markW κ T) ++ markW κ T x :: r.map (markW κ T)).map (·.b)).Nodup := by rw [← e1]; exact hF.nodup
    have hne := (map_split hnb).1
    have hk := seg_kept hsegs hne (κ x.turn)
    have hxb : p.2.b ≠ x.b := by
      obtain ⟨_, _, hxa⟩ := seg_mem hsegs (markW κ T x) (by simp)
      exact block_ne hF.blk hxa (by decide)
    refine ⟨?_, ?_, ?_, ?_⟩
    · have hb := hF.blk
      show (World.setCell _ _ _).heap[p.2.b]? = _
      rw [Below.heap_setCell _ _ _ _ hxb, show w.heap[p.2.b]? = _ from hb]
      unfold Fl.cells markF
      simp only
      rw [e1, e2, hd_app, hd_app, lst_app, lst_app]
      simp [hd, lst, Wr.keep, markW]
    · refine owns_keep hF.row (fun g hg => Below.heap_setCell _ _ _ _ (fun e3 => ?_))
      obtain ⟨_, _, hxa⟩ := seg_mem hsegs (markW κ T x) (by simp)
      exact hF.ne_row.2 g hg (markW κ T x) (by show _ ∈ p.2.ws.map _; rw [e1]; simp) e3.symm
    · show Seg _ none (p.2.ws.map (markW κ (T ++ [x.turn]))) none
      rw [e2]
      exact hk
    · show ((p.2.ws.map (markW κ (T ++ [x.turn]))).map (·.b)).Nodup
      have := hF.nodup
      rw [List.map_map]
      have h4 : ((p.2.ws.map (markW κ T)).map (·.b)).Nodup := this
      rw [List.map_map] at h4
      exact h4
  · have hno : ∀ y ∈ p.2.ws, y.turn ≠ x.turn := fun y hy et => hin (by rw [← turn_inj hnd (allW_mem.2 ⟨p, hp, hy⟩) hx et]; exact hy)
    have e2 : markF κ (T ++ [x.turn]) p.2 = markF κ T p.2 := by
      unfold markF
      rw [mark_map hno]
    rw [e2]
    have hne : p ≠ px := fun e => hin (e ▸ hxw)
    have hfx : px.2.foot x.b := .inr (.inr ⟨x, hxw, rfl⟩)
    refine hF.fr (Fr.only (S := (· = x.b)) ((Only.refl x.b w).setCell 3 _) rfl) (fun k hk e3 => ?_)
    rw [markF_foot] at hk
    exact files_pair hap hp hpx hne k hk (e3 ▸ hfx)

end Go.Proofs.YtbkngnjkaledlaaGreat.P4
