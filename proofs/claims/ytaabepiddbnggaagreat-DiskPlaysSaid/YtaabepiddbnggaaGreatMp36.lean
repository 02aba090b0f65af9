/-
  Texts of the proof of SaidPlays, side by side: Eq5.
-/
import Derived.Test.YtaabepiddbnggaaGreatMp35
/-
  The program's disk beside the document's, part 5: Rename, Write, what is left of the calls.
-/
namespace Go.Proofs.YtaabepiddbnggaaGreat.P4
open Go Go.RowKit Go.Lib Go.Maps Go.ChangeMaps Go.MapKept Go.Proofs.YtaabepiddbnggaaGreat.P3

section
variable {w w' : World} {d : Nat} {K K1 : Dk} {D D1 : RM} {ks : List Int}
theorem get_split {A : AL} {n : List UInt8} {a : AF} (hn : (A.map (·.1)).Nodup) (h : getA A n = some a) : ((n, a) :: restA A n).Perm A := by
  obtain ⟨i, hi⟩ := List.getElem?_of_mem (getA_mem h)
  have h1 := set_rest (a' := a) hn hi
  rw [list_set_self hi] at h1
  exact h1.symm
/-- a file is called as it was -/
theorem Eqv.ren_same (h : Eqv K D ks) (hK : DiskAt w d K) (hf0 : D.fallsB = false) {s : ByteArray} {i : Nat} {f : MF} {F : Fl} (hat : atN D.fs s = some i) (hi : D.fs[i]? = some f) (hF : getF K.files s.data.toList = some F) :
    Eqv { counted K with files := renF K.files s.data.toList s.data.toList F } D.count ks := by
  obtain ⟨q1, q2, q3, q4, q5⟩ := count_fs D
  refine h.renamed hK hf0 hat hi hF ?_ (by have := (h.count hf0).inv; have ht : (counted K).turn = K.turn := by unfold counted; split <;> rfl
                                           rw [ht] at this; exact this) ⟨rfl, rfl, rfl, rfl⟩
  show ((nmM s, afM D.ws f) :: restA (restA (absM D) (nmM s)) (nmM s)).Perm (absW D.count.ws D.count.fs)
  rw [q1, q2, rest_noneA (getA_rest_self _ _)]
  exact get_split (h.nodup hK) (get_some hat hi)
theorem Eqv.ren_move (h : Eqv K D ks) (hK : DiskAt w d K) (hf0 : D.fallsB = false) {s t : ByteArray} {i : Nat} {f : MF} {F : Fl} (hst : s ≠ t) (hno : atN D.fs t = none) (hat : atN D.fs s = some i) (hi : D.fs[i]? = some f) (hF : getF K.files s.data.toList = some F) :
    Eqv { counted K with files := renF K.files s.data.toList t.data.toList F } (D.count.named i f t) ks := by
  obtain ⟨q1, q2, q3, q4, q5⟩ := count_fs D
  have ht : (counted K).turn = K.turn := by unfold counted; split <;> rfl
  have hinv := (h.count hf0).inv
  rw [ht] at hinv
  refine h.renamed hK hf0 hat hi hF ?_ (hinv.named (by rw [q1]; exact hi)) ⟨rfl, rfl, rfl, rfl⟩
  show ((nmM t, afM D.ws f) :: restA (restA (absM D) (nmM s)) (nmM t)).Perm (absW D.count.ws (D.count.fs.set i _))
  rw [q1, q2]
  have h9 := named_abs t (h.nodup hK) h.inv.ids hi
  rw [atN_name hat hi] at h9
  have e : restA (restA (absM D) (nmM s)) (nmM t) = restA (absM D) (nmM s) := rest_noneA (by rw [get_rest_other (fun e => hst (nm_inj e).symm)]; exact get_none hno)
  rw [e]
  refine List.Perm.trans ?_ (List.Perm.trans h9.symm ?_)
  · exact List.Perm.refl _
  · have ef : f.name = s := atN_name hat hi
    subst ef
    exact List.Perm.refl _
theorem Eqv.ren_over (h : Eqv K D ks) (hK : DiskAt w d K) (hf0 : D.fallsB = false) {s t : ByteArray} {i i0 j : Nat} {f g : MF} {F : Fl} {u v : Value} (hst : s ≠ t) (hto : atN D.fs t = some j) (hj : D.fs[j]? = some g) (hat0 : atN D.fs s = some i0) (hi0 : D.fs[i0]? = some f)
    (hat : atN (D.fs.eraseIdx j) s = some i) (hi : (D.fs.eraseIdx j)[i]? = some f) (hF : getF K.files s.data.toList = some F) :
    Eqv { counted K with files := renF K.files s.data.toList t.data.toList F } ((D.count.rm j g u v).named i f t) ks := by
  obtain ⟨q1, q2, q3, q4, q5⟩ := count_fs D
  have ht : (counted K).turn = K.turn := by unfold counted; split <;> rfl
  have hinv := (h.count hf0).inv
  rw [ht] at hinv
  have hj' : D.count.fs[j]? = some g := by rw [q1]; exact hj
  have hi' : (D.count.rm j g u v).fs[i]? = some f := by show (D.count.fs.eraseIdx j)[i]? = _; rw [q1]; exact hi
  have hinv2 := hinv.rm (u := u) (v := v) hj'
  refine h.renamed hK hf0 hat0 hi0 hF ?_ (hinv2.named hi') ⟨rfl, rfl, rfl, rfl⟩
  have hg : g.name = t := atN_name hto hj
  have hf : f.name = s := atN_name hat0 hi0
  have hidne : f.id ≠ g.id := fun e => hst (by
    have h1 : (D.fs.map (·.id))[i0]? = some g.id := by rw [List.getElem?_map, hi0, ← e]; rfl
    have h2 : (D.fs.map (·.id))[j]? = some g.id := by rw [List.getElem?_map, hj]; rfl
    have e2 := (List.getElem?_inj (by rw [List.length_map]; exact (List.getElem?_eq_some_iff.1 hi0).1) h.inv.ids).1 (h1.trans h2.symm)
    rw [e2, hj] at hi0
    cases hi0
    rw [← hf, hg])
  show ((nmM t, afM D.ws f) :: restA (restA (absM D) (nmM s)) (nmM t)).Perm (absW (D.count.ws.filter (keepW g.id 0)) ((D.count.fs.eraseIdx j).set i _))
  rw [q1, q2]
  have hrm := rm_abs (h.nodup hK) h.inv.ids hj
  have hn2 : ((absW (D.ws.filter (keepW g.id 0)) (D.fs.eraseIdx j)).map (·.1)).Nodup := by rw [hrm]; exact rest_names (h.nodup hK) _
  have hids2 : ((D.fs.eraseIdx j).map (·.id)).Nodup := h.inv.ids.sublist (List.Sublist.map _ (List.eraseIdx_sublist ..))
  have h9 := named_abs t hn2 hids2 hi
  rw [hrm, hg] at h9
  have e3 : afM (D.ws.filter (keepW g.id 0)) f = afM D.ws f := by unfold afM; rw [keep_other f.id hidne]
  rw [e3, hf, rest_comm] at h9
  refine List.Perm.trans h9.symm ?_
  subst hf
  exact List.Perm.refl _
/-- a write, whether the power goes or not -/
theorem Eqv.wrote (h : Eqv K D ks) (hK : DiskAt w d K) {s : ByteArray} {n k : Nat} {f : MF} {C : RM} {data : ByteArray} {u v : Value} (ho : Opened D s k f C) (hf : C.fs[k]? = some f) (hn : n ≤ f.now.length) (hd : Written K s.data.toList n data K1) :
    (absL K1.files).Perm (absM (C.wrote k f (K.turn + 1) n data u v)) ∧ Inv (C.wrote k f (K.turn + 1) n data u v) (K.turn + 1) := by
  have hp := hd.abs (h.da hK)
  obtain ⟨q1, q2, q3, q4, q5⟩ := count_fs D
  obtain ⟨p1, p2, p3, p4⟩ := count_more D
  have hturn : ∀ x ∈ D.ws ++ [(⟨K.turn + 1, f.id, n, data⟩ : RW)], x.turn ≤ K.turn + 1 := fun x hx => by
    rcases List.mem_append.1 hx with q | q
    · have := h.inv.tmax x q; omega
    · obtain rfl := List.mem_singleton.1 q; exact Nat.le_refl _
  have hpw : (D.ws ++ [(⟨K.turn + 1, f.id, n, data⟩ : RW)]).Pairwise (fun x y => x.turn < y.turn) := by
    rw [List.pairwise_append]
    refine ⟨h.inv.turns, List.pairwise_singleton _ _, fun x hx y hy => ?_⟩
    obtain rfl := List.mem_singleton.1 hy
    have := h.inv.tmax x hx
    show x.turn < K.turn + 1
    omega
  have hoth : ∀ id, id ≠ f.id → wrM (D.ws ++ [(⟨K.turn + 1, f.id, n, data⟩ : RW)]) id = wrM D.ws id := fun id hne => by rw [wr_snoc, if_neg hne]
  have hmine : wrM (D.ws ++ [(⟨K.turn + 1, f.id, n, data⟩ : RW)]) f.id = wrM D.ws f.id ++ [(K.turn + 1, n, data)] := by rw [wr_snoc, if_pos rfl]
  have hafw : afM (D.ws ++ [(⟨K.turn + 1, f.id, n, data⟩ : RW)]) { f with now := putAt f.now n data, nv := u } = (afM D.ws f).write (K.turn + 1) n data := by
    unfold afM AF.write putAt
    rw [hmine]
  rcases ho with ⟨hat, hi, rfl⟩ | ⟨hat, rfl, hlt, lv, rfl, rfl⟩
  · have hnm := atN_name hat hi
    subst hnm
    refine ⟨hp.trans ?_, ?_⟩
    · show List.Perm _ (absW (D.count.ws ++ _) (D.count.fs.set k _))
      rw [q1, q2]
      have h9 := set_perm (ws := D.ws) (ws' := D.ws ++ [(⟨K.turn + 1, f.id, n, data⟩ : RW)]) (f' := { f with now := putAt f.now n data, nv := u }) (h.nodup hK) hi h.inv.ids hoth rfl
      rw [hafw] at h9
      refine List.Perm.trans ?_ h9.symm
      have e : getA (absM D) f.name.data.toList = some (afM D.ws f) := get_some hat hi
      rw [e]
      exact List.Perm.refl _
    · have hs := h.inv.count.set (u := D.count.lv) (v := v) (t' := K.turn + 1) (f' := { f with now := putAt f.now n data, nv := u }) (ws' := D.ws ++ [(⟨K.turn + 1, f.id, n, data⟩ : RW)]) hf rfl (Nat.le_succ _) hpw hturn (fun x hx => by
          rcases List.mem_append.1 hx with q | q
          · exact .inl (by rw [q2]; exact q)
          · obtain rfl := List.mem_singleton.1 q; exact .inr rfl) (fun id hne => by rw [q2]; exact hoth id hne) (by
          rw [hmine]
          exact last_snoc (h.inv.redo f (List.mem_of_getElem? hi)) _ _ _ hn)
      show Inv { D.count with fs := D.count.fs.set k _, wv := v, ws := D.count.ws ++ _ } _
      rw [q2]
      exact hs
  · have hn0 : n = 0 := by simpa using hn
    subst hn0
    have hnoid : ∀ g ∈ D.fs, g.id ≠ D.ids + 1 := fun g hg e => by have := (h.inv.idm g hg).2; omega
    have hnow : wrM D.ws (D.ids + 1) = [] := by
      unfold wrM
      rw [List.filter_eq_nil_iff.2 fun x hx => ?_]
      · rfl
      · obtain ⟨g, hg, e⟩ := h.inv.own x hx
        simp only [decide_eq_true_eq]
        exact fun e2 => hnoid g hg (e.trans e2)
    have hset : (D.count.fresh s lv).fs.set D.fs.length { (⟨s, D.ids + 1, [], [], false, .slice none 0 0, .slice none 0 0⟩ : MF) with now := putAt [] 0 data, nv := u } = D.fs ++ [{ (⟨s, D.ids + 1, [], [], false, .slice none 0 0, .slice none 0 0⟩ : MF) with now := putAt [] 0 data, nv := u }] := by
      show (D.count.fs ++ [_]).set _ _ = _
      rw [q1, List.set_append_right _ _ (Nat.le_refl _), Nat.sub_self]
      rfl
    refine ⟨hp.trans ?_, ?_⟩
    · show List.Perm _ (absW (D.count.ws ++ _) ((D.count.fresh s lv).fs.set D.fs.length _))
      rw [hset, q2]
      have e : getA (absM D) s.data.toList = none := get_none hat
      rw [e]
      have e2 : absW (D.ws ++ [(⟨K.turn + 1, D.ids + 1, 0, data⟩ : RW)]) D.fs = absM D := by
        unfold absM absW
        apply List.map_congr_left
        intro g hg
        unfold afM
        rw [hoth g.id (hnoid g hg)]
      show List.Perm _ (absW (D.ws ++ [(⟨K.turn + 1, D.ids + 1, 0, data⟩ : RW)]) (D.fs ++ [_]))
      unfold absW at e2 ⊢
      rw [List.map_append, e2]
      have e3 : restA (absM D) s.data.toList = absM D := rest_noneA (get_none hat)
      rw [e3]
      have e4 : (((none : Option AF).getD ⟨[], [], false, []⟩).write (K.turn + 1) 0 data) = afM (D.ws ++ [(⟨K.turn + 1, D.ids + 1, 0, data⟩ : RW)]) { (⟨s, D.ids + 1, [], [], false, .slice none 0 0, .slice none 0 0⟩ : MF) with now := putAt [] 0 data, nv := u } := by
        unfold afM AF.write putAt
        rw [hmine, hnow]
        rfl
      rw [e4]
      exact (List.perm_append_singleton _ _).symm
    · refine ⟨by show (D.count.ws ++ _).Pairwise _; rw [q2]; exact hpw, by show ∀ x ∈ D.count.ws ++ _, _; rw [q2]; exact hturn, fun x hx => ?_, ?_, fun g hg => ?_, ?_, fun g hg => ?_⟩
      · have hx' : x ∈ D.ws ++ [(⟨K.turn + 1, D.ids + 1, 0, data⟩ : RW)] := by rw [← q2]; exact hx
        show ∃ f ∈ (D.count.fresh s lv).fs.set D.fs.length _, _
        rw [hset]
        rcases List.mem_append.1 hx' with q | q
        · obtain ⟨g, hg, e⟩ := h.inv.own x q
          exact ⟨g, List.mem_append_left _ hg, e⟩
        · obtain rfl := List.mem_singleton.1 q
          exact ⟨_, List.mem_append_right _ (List.mem_singleton.2 rfl), rfl⟩
      · show (((D.count.fresh s lv).fs.set D.fs.length _).map (·.id)).Nodup
        rw [hset, List.map_append]
        refine List.nodup_append.2 ⟨h.inv.ids, by simp, fun a ha b hb => ?_⟩
        obtain ⟨g, hg, rfl⟩ := List.mem_map.1 ha
        simp only [List.map_cons, List.map_nil, List.mem_singleton] at hb
        rw [hb]
        exact hnoid g hg
      · have hg' : g ∈ (D.count.fresh s lv).fs.set D.fs.length _ := hg
        rw [hset] at hg'
        show 1 ≤ g.id ∧ g.id ≤ D.count.ids + 1
        rw [p1]
        rcases List.mem_append.1 hg' with q | q
        · have := h.inv.idm g q; omega
        · obtain rfl := List.mem_singleton.1 q
          exact ⟨Nat.le_add_left _ _, Nat.le_refl _⟩
      · show D.count.ids + 1 ≤ K.turn + 1
        rw [p1]
        have := h.inv.idt
        omega
      · have hg' : g ∈ (D.count.fresh s lv).fs.set D.fs.length _ := hg
        rw [hset] at hg'
        show LastOk (wrM (D.count.ws ++ _) g.id) g.now
        rw [q2]
        rcases List.mem_append.1 hg' with q | q
        · have e5 := hoth g.id (hnoid g q)
          show LastOk (wrM (D.ws ++ [(⟨K.turn + 1, D.ids + 1, 0, data⟩ : RW)]) g.id) g.now
          rw [e5]
          exact h.inv.redo g q
        · obtain rfl := List.mem_singleton.1 q
          show LastOk (wrM (D.ws ++ [(⟨K.turn + 1, D.ids + 1, 0, data⟩ : RW)]) (D.ids + 1)) (putAt [] 0 data)
          rw [hmine, hnow]
          exact last_snoc (last_nil []) _ 0 _ (Nat.le_refl _)
end

end Go.Proofs.YtaabepiddbnggaaGreat.P4
