/-
  A map from ints to ints that the program made: what it holds, as a datum; its entries written by 'm[a], m[b] = i, j' where the keys are there.
-/
import Derived.Test.YtalgbimclagdjaaBase3
import Derived.Maps.OwnSet
import Derived.Maps.OwnOps
import Derived.WideKeyEntry
import Derived.WalkArith
namespace Go.Proofs.Ytalgbimclagdjaa.P3
open Go Go.RowKit Go.Lib Go.Maps Go.ChangeMaps Go.MapKept
open Go.WideElems (Fit rd rg pl rd_val findIdx_born findIdx_arr set_self other_key)

def kl (a : Int) : Lit := .int .i64 a
def dI (a : Int) : DataW Unit := .lit (.int .i64 a)
theorem lawI : Keyed Try.prog 3 := int_keyed Try.underlying3
theorem zeroI (w : World) : (zeroValue 3).run Try.prog w = .ok (.int .i64 0) w := by kernel_rfl
theorem keyI {a : Int} (h : (Lit.int .i64 a).wf = true) : keyOf Try.prog 3 (.int .i64 a) = some (kl a) := keyOf_int_mk Try.underlying3 h
theorem keylit (a : Int) : WideAt.IsKeyLit (kl a) := trivial
theorem kl_inj {a b : Int} (h : kl a = kl b) : a = b := by simpa [kl] using h

/-- block m is a map of at most n entries that reads as D -/
def MapIs (w : World) (m n : Nat) (D : DataW Unit) : Prop := w.ownsMap Try.prog 3 (plainElem Try.prog 3) m n D

theorem setBlock_self {w : World} {m : Nat} {o : Obj} (h : w.heap[m]? = some o) : setBlock w m o = w := by
  unfold setBlock
  have : w.heap.setIfInBounds m o = w.heap := by
    apply Array.ext'
    obtain ⟨hlt, he⟩ := Array.getElem?_eq_some_iff.1 h
    rw [Array.toList_setIfInBounds]
    exact set_self _ _ _ (by simpa using h)
  rw [this]

theorem look_has {w : World} {m n : Nat} {D : DataW Unit} (h : MapIs w m n D) {a : Int} (ha : (Lit.int .i64 a).wf = true) :
    ∃ c, (Instr.lookup 57 (.map (some m)) (.int .i64 a) true).run Try.prog w = .ok (.tuple #[.int .i64 c, .bool (Maps.has D (kl a))]) w ∧ D.atKey (kl a) (dI 0) = dI c := by
  obtain ⟨v, ps, hrun, hv⟩ := World.ownsMap.look_ok h lawI Try.underlying57 (zeroI w) (plainElem_int Try.underlying3 (by decide)) (keyI ha)
  obtain ⟨c, rfl, hc, _⟩ := plainElem_int_inv Try.underlying3 hv
  simp only [Prod.mk.injEq] at hc
  exact ⟨c, hrun, hc.1⟩

theorem entry_old {w : World} {m n : Nat} {D : DataW Unit} (h : MapIs w m n D) {a : Int} (ha : (Lit.int .i64 a).wf = true) (hh : Maps.has D (kl a) = true) (hn : n < maxLen) :
    ∃ (o : Obj) (v0 : Value) (st : Nat), w.heap[m]? = some o ∧
      (∀ w2 : World, w2.heap[m]? = some o → (Instr.mapEntry 57 (.map (some m)) (.int .i64 a)).run Try.prog w2 = .ok (.tuple #[v0, .int .i64 st]) w2) ∧
      ∀ c : Int, (Lit.int .i64 c).wf = true → ∃ o' : Obj, (∀ w2 : World, w2.heap[m]? = some o → (Instr.entryStore 57 (.map (some m)) (.int .i64 st) (.int .i64 c)).run Try.prog w2 = .ok () (setBlock w2 m o')) ∧
        ∀ w2 : World, w2.heap[m]? = some o' → MapIs w2 m n (D.put (kl a) (dI c)) := by
  obtain ⟨es, clock, hb, F, hs, rfl⟩ := h
  obtain ⟨s1, s2, s3⟩ := F.stamped
  have K := lawI
  have hkey := keyI ha
  have hfind : ∃ j e, es.toList[j]? = some e ∧ e.key = .int .i64 a ∧ ∀ u : World, (Instr.findKey 3 (.int .i64 a) es.toList).run Try.prog u = .ok (some (j, e.val)) u := by
    rcases K.find w hkey es.toList F.keys with ⟨h1, h2⟩ | ⟨j, e, h1, h2, h3⟩
    · exfalso
      rcases Maps.fit_look true K Try.underlying57 (zeroI w) hb F hkey with ⟨_, _, hat⟩ | ⟨e0, y, he, hk, _⟩
      · rw [Maps.has_false_of_atKey hat] at hh
        cases hh
      · exact h2 e0 he hk
    · refine ⟨j, e, h2, h3, fun u => ?_⟩
      rcases K.find u hkey es.toList F.keys with ⟨h1', h2'⟩ | ⟨j', e', h1', h2', h3'⟩
      · exact absurd h3 (h2' e (List.mem_of_getElem? h2))
      · have : j' = j := by
          by_cases hj : j' = j
          · exact hj
          · exact absurd h3' (by rw [← h3]; exact other_key F h2 h2' hj)
        subst this
        rw [h2] at h2'
        cases h2'
        exact h1'
  obtain ⟨j, e0, h2, h3, h1⟩ := hfind
  have hj : es[j]? = some e0 := by simpa using h2
  have hsame : es.modify j (fun e => { e with key := .int .i64 a }) = es := by
    apply Array.ext'
    rw [Array.toList_modify, modify_eq_set _ _ _ _ h2]
    have : ({ e0 with key := .int .i64 a } : MapEntry) = e0 := by rw [← h3]
    rw [this]
    exact set_self _ _ _ h2
  refine ⟨.map es clock, e0.val, e0.born, hb, fun w2 hw2 => ?_, fun c hc => ?_⟩
  · simp [Instr.mapEntry, run_underlying Try.underlying57, MapKept.run_getObj_map hw2, K.check w2 false hkey, h1, hj, h3, K.stays w2 hkey, hsame, MapKept.run_setObj_map _ hw2, Result.andThen, goInt]
    have := setBlock_self hw2
    unfold setBlock at this
    rw [this]
  · obtain ⟨es', clock', hrun, F', hput, _⟩ := Maps.fit_store (R' := plainElem (H := Unit) Try.prog 3) K Try.underlying57 hb F (Nat.lt_of_le_of_lt hs hn) (fun _ _ _ _ hz => hz) hkey (plainElem_int Try.underlying3 hc)
    have hrun2 : (Instr.mapUpdate 57 (.map (some m)) (.int .i64 a) (.int .i64 c)).run Try.prog w = .ok () (setBlock w m (.map (es.modify j (fun e' => { e' with key := .int .i64 a, val := .int .i64 c })) clock)) := by
      simp [Instr.mapUpdate, run_underlying Try.underlying57, MapKept.run_getObj_map hb, K.check w false hkey, h1, hj, h3, K.stays w hkey, MapKept.run_setObj_map _ hb, Result.andThen, setBlock]
    have he : Obj.map es' clock' = Obj.map (es.modify j (fun e' => { e' with key := .int .i64 a, val := .int .i64 c })) clock := by
      rw [hrun] at hrun2
      have e1 : setBlock w m (.map es' clock') = setBlock w m (.map (es.modify j (fun e' => { e' with key := .int .i64 a, val := .int .i64 c })) clock) := by simpa using hrun2
      have e2 := heap_setBlock_same hb (.map es' clock')
      rw [e1, heap_setBlock_same hb] at e2
      exact (Option.some.inj e2).symm
    injection he with he1 he2
    subst he2
    have hidx : es.findIdx? (fun e => ((e.born : Nat) : Int) == ((e0.born : Nat) : Int)) = some j := by
      rw [findIdx_arr]
      exact findIdx_born s2 h2
    have hmod : es.modify j (fun e => { e with val := .int .i64 c }) = es' := by
      rw [he1]
      apply Array.ext'
      rw [Array.toList_modify, Array.toList_modify, modify_eq_set _ _ _ _ h2, modify_eq_set _ _ _ _ h2, ← h3]
    refine ⟨.map es' clock', fun w2 hw2 => ?_, fun w2 hw2 => ⟨es', clock', hw2, F', ?_, ?_⟩⟩
    · simp [Instr.entryStore, MapKept.run_getObj_map hw2, asInt, asIntOf, hidx, hmod, MapKept.run_setObj_map _ hw2, Result.andThen, setBlock]
    · rw [← hmod]
      simpa using hs
    · rw [DataW.put_eq, hput]
      rfl

end Go.Proofs.Ytalgbimclagdjaa.P3
