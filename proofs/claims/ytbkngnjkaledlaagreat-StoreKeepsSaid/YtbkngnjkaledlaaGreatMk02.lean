/-
  Texts of the proof of SaidKeeps8, side by side: Dk12.
-/
import Derived.Test.YtbkngnjkaledlaaGreatMk01
import Derived.Maps.OwnSet
import Derived.Maps.OwnOps
import Derived.Maps.RangeWalk
import Derived.Maps.StringElems
import Derived.StringKeys
/-
  Package disk: the map of a disk's files, by their names. (Disk, part 12.)
-/
namespace Go.Proofs.YtbkngnjkaledlaaGreat.P4
open Go Go.RowKit Go.Lib Go.Maps Go.ChangeMaps Go.MapKept Go.Proofs.YtbkngnjkaledlaaGreat.P3

def enF (b : Int) : DataW Unit := .lit (.int .i64 b)
/-- how a map's element reads: a file's block -/
def Rf : Value → Option (DataW Unit × List MemPlace)
  | .pointer none => some (enF (-1), [])
  | .pointer (some ⟨b, 0, none⟩) => some (enF b, [])
  | _ => none
theorem rf_ptr (o : Option Nat) : Rf (ptr o) = some (enF (match o with | none => -1 | some b => (b : Int)), []) := by cases o <;> rfl
theorem rf_inv {v : Value} {y : DataW Unit × List MemPlace} (h : Rf v = some y) : ∃ o, v = ptr o ∧ y = (enF (match o with | none => -1 | some b => (b : Int)), []) := by
  unfold Rf at h
  split at h
  · exact ⟨none, rfl, by simpa using h.symm⟩
  · exact ⟨some _, rfl, by simpa using h.symm⟩
  · cases h
theorem enF_inj {a b : Int} (h : enF a = enF b) : a = b := by simpa [enF] using h
theorem lawS : Keyed Tryz.prog 9 := string_keyed Tryz.underlying9
theorem keyS {s : ByteArray} (hs : s.size ≤ maxLen) : keyOf Tryz.prog 9 (.string s) = some (.string s.data.toList) := WideMaps.keyOf_string_mk Tryz.underlying9 hs
theorem zeroF (w : World) : (zeroValue 124).run Tryz.prog w = .ok (.pointer none) w := by kernel_rfl
theorem slit (n : List UInt8) : WideAt.IsKeyLit (.string n) := trivial
theorem string_lit {a b : List UInt8} (h : Lit.string a = Lit.string b) : a = b := by simpa using h

abbrev Dir := List (List UInt8 × Nat)
/-- the map's datum tells each file's block by its name -/
structure Looks (D : DataW Unit) (L : Dir) : Prop where
  size : Maps.size D = L.length
  here : ∀ n b, (n, b) ∈ L → ∀ z, D.atKey (.string n) z = enF b
  has : ∀ n, Maps.has D (.string n) = true → ∃ b, (n, b) ∈ L
def MapAt (w : World) (m : Option Nat) (L : Dir) : Prop :=
  (m = none ∧ L = []) ∨ ∃ b D, m = some b ∧ w.ownsMap Tryz.prog 9 Rf b L.length D ∧ Looks D L
/-- the block of a name -/
def lk (L : Dir) (n : List UInt8) : Option Nat := (L.find? (·.1 == n)).map (·.2)
theorem lk_some {L : Dir} {n : List UInt8} {b : Nat} (h : lk L n = some b) : (n, b) ∈ L := by
  unfold lk at h
  obtain ⟨⟨n', b'⟩, h1, rfl⟩ := Option.map_eq_some_iff.1 h
  have h2 := List.mem_of_find?_eq_some h1
  have h3 := List.find?_some h1
  obtain rfl : n' = n := by simpa using h3
  exact h2
theorem lk_none {L : Dir} {n : List UInt8} (h : lk L n = none) : ∀ b, (n, b) ∉ L := by
  intro b hb
  unfold lk at h
  rw [Option.map_eq_none_iff, List.find?_eq_none] at h
  exact h _ hb (by simp)
theorem lk_mem {L : Dir} (hn : (L.map (·.1)).Nodup) {n : List UInt8} {b : Nat} (h : (n, b) ∈ L) : lk L n = some b := by
  cases e : lk L n with
  | none => exact absurd h (lk_none e b)
  | some b' =>
    have h2 := lk_some e
    have : ∀ {L : Dir}, (L.map (·.1)).Nodup → (n, b) ∈ L → (n, b') ∈ L → b = b' := by
      intro L
      induction L with
      | nil => intro _ h; simp at h
      | cons p r ih =>
        intro hn h1 h2
        rw [List.map_cons, List.nodup_cons] at hn
        rcases List.mem_cons.1 h1 with e1 | h1
        · rcases List.mem_cons.1 h2 with e2 | h2
          · rw [← e1] at e2; simpa using e2.symm
          · exact absurd (List.mem_map.2 ⟨_, h2, by rw [← e1]⟩) hn.1
        · rcases List.mem_cons.1 h2 with e2 | h2
          · exact absurd (List.mem_map.2 ⟨_, h1, by rw [← e2]⟩) hn.1
          · exact ih hn.2 h1 h2
    rw [this hn h h2]
theorem owns_tight {w : World} {b n : Nat} {D : DataW Unit} (h : w.ownsMap Tryz.prog 9 Rf b n D) : w.ownsMap Tryz.prog 9 Rf b (Maps.size D) D := by
  obtain ⟨es, clock, hb, F, hs, rfl⟩ := h
  exact ⟨es, clock, hb, F, by simp [Maps.size, length_sorted], rfl⟩
theorem MapAt.fr {S : Nat → Prop} {w w' : World} {m : Option Nat} {L : Dir} (h : MapAt w m L) (hf : Fr S w w') (hS : ∀ b, m = some b → ¬ S b) : MapAt w' m L := by
  rcases h with h | ⟨b, D, rfl, ⟨es, clock, hb, r⟩, hl⟩
  · exact .inl h
  · exact .inr ⟨b, D, rfl, ⟨es, clock, hf.keep hb (hS b rfl), r⟩, hl⟩
theorem MapAt.drew {w : World} {m : Option Nat} {L : Dir} (h : MapAt w m L) : MapAt w.drew m L := h
/-- 'd.files[name]' -/
theorem MapAt.look {w : World} {m : Option Nat} {L : Dir} (h : MapAt w m L) (hn : (L.map (·.1)).Nodup) {s : ByteArray} (hs : s.size ≤ maxLen) : (Instr.lookup 71 (.map m) (.string s) false).run Tryz.prog w = .ok (ptr (lk L s.data.toList)) w := by
  rcases h with ⟨rfl, rfl⟩ | ⟨b, D, rfl, ho, hl⟩
  · have := Maps.look_nil (w := w) false lawS Tryz.underlying71 (zeroF w) (keyS hs)
    show _ = Result.ok (Value.pointer none) w
    simpa using this
  · obtain ⟨v, ps, hrun, hv⟩ := ho.lookup lawS Tryz.underlying71 (zeroF w) (rf_ptr none) (keyS hs)
    obtain ⟨o, rfl, e⟩ := rf_inv hv
    suffices eo : o = lk L s.data.toList by rw [hrun, eo]
    simp only [Prod.mk.injEq] at e
    cases e2 : lk L s.data.toList with
    | some c =>
      have := hl.here _ _ (lk_some e2) (enF (-1))
      rw [this] at e
      have e3 := enF_inj e.1
      cases o with
      | none => exfalso; have e4 : (c : Int) = -1 := e3; omega
      | some o =>
                  have e4 : (c : Int) = (o : Int) := e3
                  obtain rfl : o = c := by omega
                  rfl
    | none =>
      have hno : Maps.has D (.string s.data.toList) = false := by
        cases e3 : Maps.has D (.string s.data.toList) with
        | false => rfl
        | true =>
          obtain ⟨c, hc⟩ := hl.has _ e3
          exact absurd hc (lk_none e2 c)
      have := atKey_of_not_has hno (enF (-1))
      rw [this] at e
      have e3 := enF_inj e.1
      cases o with
      | none => rfl
      | some o => exfalso; have e4 : (-1 : Int) = (o : Int) := e3; omega
def putL (L : Dir) (n : List UInt8) (b : Nat) : Dir := L.filter (·.1 != n) ++ [(n, b)]
def delL (L : Dir) (n : List UInt8) : Dir := L.filter (·.1 != n)
theorem del_length {L : Dir} (hn : (L.map (·.1)).Nodup) (n : List UInt8) : (delL L n).length + (if (lk L n).isSome then 1 else 0) = L.length := by
  induction L with
  | nil => rfl
  | cons p r ih =>
    rw [List.map_cons, List.nodup_cons] at hn
    have ih := ih hn.2
    unfold delL lk at *
    by_cases e : p.1 = n
    · have h1 : (p.1 != n) = false := by simpa using e
      have h2 : (p.1 == n) = true := by simpa using e
      rw [List.filter_cons_of_neg (by simpa using e)]
      simp only [List.find?_cons, h2]
      have hno : r.find? (·.1 == n) = none := by
        rw [List.find?_eq_none]
        intro q hq h3
        have h3 : q.1 = n := by simpa using h3
        exact hn.1 (List.mem_map.2 ⟨q, hq, by rw [h3, e]⟩)
      rw [hno] at ih
      simpa using ih
    · have h2 : (p.1 == n) = false := by simpa using e
      rw [List.filter_cons_of_pos (by simpa using e), List.length_cons, List.length_cons]
      simp only [List.find?_cons, h2]
      omega
theorem del_mem {L : Dir} {n k : List UInt8} {b : Nat} : (k, b) ∈ delL L n ↔ (k, b) ∈ L ∧ k ≠ n := by
  unfold delL
  rw [List.mem_filter]
  simp
theorem has_of_here {D : DataW Unit} {L : Dir} (hl : Looks D L) {n : List UInt8} {b : Nat} (h : (n, b) ∈ L) : Maps.has D (.string n) = true := has_true_of_atKey (hl.here n b h)
theorem lk_has {D : DataW Unit} {L : Dir} (hl : Looks D L) (n : List UInt8) : Maps.has D (.string n) = (lk L n).isSome := by
  cases e : lk L n with
  | some b => exact has_of_here hl (lk_some e)
  | none =>
    cases e2 : Maps.has D (.string n) with
    | false => rfl
    | true =>
      obtain ⟨b, hb⟩ := hl.has n e2
      exact absurd hb (lk_none e b)
theorem looks_del {D : DataW Unit} {L : Dir} (hl : Looks D L) (ht : Tidy D) (hn : (L.map (·.1)).Nodup) (n : List UInt8) : Looks (D.del (.string n)) (delL L n) := by
  refine ⟨?_, fun k b hb z => ?_, fun k hk => ?_⟩
  · have h1 := size_del (k := .string n) ht
    have h2 := del_length hn n
    rw [lk_has hl] at h1
    rw [hl.size] at h1
    split at h1 <;> split at h2 <;> simp_all <;> omega
  · obtain ⟨h1, h2⟩ := del_mem.1 hb
    rw [atKey_del_other (fun e => h2 (string_lit e))]
    exact hl.here k b h1 z
  · by_cases e : k = n
    · subst e
      rw [has_del_same] at hk
      cases hk
    · rw [has_del_other (fun e2 => e (string_lit e2))] at hk
      obtain ⟨b, hb⟩ := hl.has k hk
      exact ⟨b, del_mem.2 ⟨hb, e⟩⟩
theorem looks_put {D : DataW Unit} {L : Dir} (hl : Looks D L) (ht : Tidy D) (hn : (L.map (·.1)).Nodup) (n : List UInt8) (c : Nat) : Looks (D.put (.string n) (enF c)) (putL L n c) := by
  refine ⟨?_, fun k b hb z => ?_, fun k hk => ?_⟩
  · have h1 := size_put (k := .string n) ht (enF c)
    have h2 := del_length hn n
    rw [lk_has hl, hl.size] at h1
    unfold putL
    rw [List.length_append]
    show _ = (delL L n).length + 1
    split at h1 <;> split at h2 <;> simp_all <;> omega
  · unfold putL at hb
    rcases List.mem_append.1 hb with hb | hb
    · obtain ⟨h1, h2⟩ := del_mem.1 hb
      rw [atKey_put_other (fun e => h2 (string_lit e))]
      exact hl.here k b h1 z
    · obtain ⟨rfl, rfl⟩ : k = n ∧ b = c := by simpa using hb
      exact atKey_put_same ht.isMap (slit _) _ _
  · unfold putL
    by_cases e : k = n
    · subst e
      exact ⟨c, by simp⟩
    · rw [has_put_other (fun e2 => e (string_lit e2))] at hk
      obtain ⟨b, hb⟩ := hl.has k hk
      exact ⟨b, List.mem_append_left _ (del_mem.2 ⟨hb, e⟩)⟩
/-- 'd.files[name] = f' -/
theorem MapAt.put {w : World} {b : Nat} {L : Dir} (h : MapAt w (some b) L) (hn : (L.map (·.1)).Nodup) (hfew : L.length ≤ 1000) {s : ByteArray} (hs : s.size ≤ maxLen) (c : Nat) :
    ∃ w', (Instr.mapUpdate 71 (.map (some b)) (.string s) (.pointer (some ⟨c, 0, none⟩))).run Tryz.prog w = .ok () w' ∧ MapAt w' (some b) (putL L s.data.toList c) ∧ w.mapTurned w' b := by
  rcases h with ⟨h, _⟩ | ⟨b', D, e, ho, hl⟩
  · cases h
  obtain rfl : b = b' := by simpa using e
  obtain ⟨w', hrun, ho', ht⟩ := ho.store lawS Tryz.underlying71 (by unfold maxLen; omega) (keyS hs) (rf_ptr (some c))
  have hl' := looks_put hl (ho.tidy lawS) hn s.data.toList c
  refine ⟨w', hrun, .inr ⟨b, _, rfl, ?_, hl'⟩, ht⟩
  rw [← hl'.size]
  exact owns_tight ho'
/-- 'delete(d.files, name)' -/
theorem MapAt.del {w : World} {m : Option Nat} {L : Dir} (h : MapAt w m L) (hn : (L.map (·.1)).Nodup) {s : ByteArray} (hs : s.size ≤ maxLen) (ty : TypeId) :
    ∃ w', (Builtin.delete_ #[71, 9] ty #[.map m, .string s]).run Tryz.prog w = .ok (.tuple #[]) w' ∧ MapAt w' m (delL L s.data.toList) ∧ (∀ b, m = some b → w.mapTurned w' b) ∧ (m = none → w' = w) := by
  rcases h with ⟨rfl, rfl⟩ | ⟨b, D, rfl, ho, hl⟩
  · exact ⟨w, Maps.drop_nil lawS Tryz.underlying71 (keyS hs) ty, .inl ⟨rfl, rfl⟩, fun b e => (by cases e), fun _ => rfl⟩
  · obtain ⟨w', hrun, ho', ht⟩ := ho.drop lawS Tryz.underlying71 (keyS hs) ty
    have hl' := looks_del hl (ho.tidy lawS) hn s.data.toList
    refine ⟨w', hrun, .inr ⟨b, _, rfl, ?_, hl'⟩, fun b' e => ?_, fun e => (by cases e)⟩
    · rw [← hl'.size]
      exact owns_tight ho'
    · obtain rfl : b = b' := by simpa using e
      exact ht
/-- 'len(d.files)' -/
theorem MapAt.len {w : World} {m : Option Nat} {L : Dir} (h : MapAt w m L) (ty : TypeId) : (Builtin.len_ #[71] ty #[.map m]).run Tryz.prog w = .ok (.int .i64 L.length) w := by
  rcases h with ⟨rfl, rfl⟩ | ⟨b, D, rfl, ho, hl⟩
  · exact Maps.len_nil Tryz.underlying71 ty
  · rw [ho.len Tryz.underlying71 ty, hl.size]
theorem MapAt.made (w : World) : MapAt (w.alloc (.map #[] 0)) (some w.heap.size) [] :=
  .inr ⟨_, _, rfl, World.ownsMap_made w _ _ _, ⟨rfl, fun n b h => by simp at h, fun n h => by simp [Maps.has] at h⟩⟩
theorem put_nodup {L : Dir} (hn : (L.map (·.1)).Nodup) (n : List UInt8) (c : Nat) : ((putL L n c).map (·.1)).Nodup := by
  unfold putL
  rw [List.map_append, List.nodup_append]
  refine ⟨(List.filter_sublist.map _).nodup hn, by simp, fun a ha b hb => ?_⟩
  obtain ⟨p, hp, rfl⟩ := List.mem_map.1 ha
  have := (List.mem_filter.1 hp).2
  simp at hb this
  rw [hb]; exact this
theorem del_nodup {L : Dir} (hn : (L.map (·.1)).Nodup) (n : List UInt8) : ((delL L n).map (·.1)).Nodup := (List.filter_sublist.map _).nodup hn

end Go.Proofs.YtbkngnjkaledlaaGreat.P4
