/-
  Texts of the proof of SaidPlay8b.
-/
import Derived.Test.YtbkngnjkaledlaaGreatMp24
namespace Go.Proofs.YtbkngnjkaledlaaGreat.P4
open Go Go.RowKit Go.Lib Go.Maps Go.ChangeMaps Go.MapKept P3
section
variable {w w' : World} {d : Nat} {K K1 : Dk} {D D1 : RM} {ks : List Int}
theorem get_split {A : AL} {n : List UInt8} {a : AF} (hn : (A.map (·.1)).Nodup) (h : getA A n = some a) : ((n, a) :: restA A n).Perm A := by
 obtain ⟨i, hi⟩ := List.getElem?_of_mem (getA_mem h)
 have h1 := set_rest (a' := a) hn hi
 rw [list_set_self hi] at h1
 exact h1.symm
theorem Eqv.ren_same (h : Eqv K D ks) (hK : DiskAt w d K) (hf0 : D.fallsB = false) {s : ByteArray} {i : Nat} {f : MF} {F : Fl} (hat : atN D.fs s = some i) (hi : D.fs[i]? = some f) (hF : getF K.files s.data.toList = some F) :
  Eqv { counted K with files := renF K.files s.data.toList s.data.toList F } D.count ks := by
 obtain ⟨q1, q2, q3, q4, q5⟩ := count_fs D
 refine h.renamed hK hf0 hat hi hF ?_ (by have := (h.count hf0).inv; have ht : (counted K).turn = K.turn := by unfold counted; split <;> rfl
                                          rw [ht] at this; exact this) ⟨rfl, rfl, rfl, rfl⟩
 show ((nmM s, afM D.ws f) :: restA (restA (absM D) (nmM s)) (nmM s)).Perm (absW D.count.ws D.count.fs)
 rw [q1, q2, rest_noneA (getA_rest_self _ _)]
 exact get_split (h.nodup hK) (get_some hat hi)
theorem Eqv.ren_move (h : Eqv K D ks) (hK : DiskAt w d K) (hf0 : D.fallsB = false) {s t : ByteArray} {i : Nat} {f : MF} {F : Fl} (hst : s ≠ t) (hno : atN D.fs t = none) (hat : atN D.fs s = some i) (hi : D.fs[i]? = some f) (hF : getF K.files s.data.toList = some F) :
  Eqv { counted K with files := renF K.files s.data.toList t.data.toList F } (D.count.named i f t) ks := by
 obtain ⟨q1, q2, q3, q4, q5⟩ := count_fs D
 have ht : (counted K).turn = K.turn := by unfold counted; split <;> rfl
 have hinv := (h.count hf0).inv
 rw [ht] at hinv
 refine h.renamed hK hf0 hat hi hF ?_ (hinv.named (by rw [q1]; exact hi)) ⟨rfl, rfl, rfl, rfl⟩
 show ((nmM t, afM D.ws f) :: restA (restA (absM D) (nmM s)) (nmM t)).Perm (absW D.count.ws (D.count.fs.set i _))
 rw [q1, q2]
 have h9 := named_abs t (h.nodup hK) h.inv.ids hi
 rw [atN_name hat hi] at h9
 have e : restA (restA (absM D) (nmM s)) (nmM t) = restA (absM D) (nmM s) := rest_noneA (by rw [get_rest_other (fun e => hst (nm_inj e).symm)]; exact get_none hno)
 rw [e]
 refine List.Perm.trans ?_ (List.Perm.trans h9.symm ?_)
 ·exact List.Perm.refl _
 ·have ef : f.name = s := atN_name hat hi
  subst ef
  exact List.Perm.refl _
theorem Eqv.ren_over (h : Eqv K D ks) (hK : DiskAt w d K) (hf0 : D.fallsB = false) {s t : ByteArray} {i i0 j : Nat} {f g : MF} {F : Fl} {u v : Value} (hst : s ≠ t) (hto : atN D.fs t = some j) (hj : D.fs[j]? = some g) (hat0 : atN D.fs s = some i0) (hi0 : D.fs[i0]? = some f)
  (hat : atN (D.fs.eraseIdx j) s = some i) (hi : (D.fs.eraseIdx j)[i]? = some f) (hF : getF K.files s.data.toList = some F) :
  Eqv { counted K with files := renF K.files s.data.toList t.data.toList F } ((D.count.rm j g u v).named i f t) ks := by
 obtain ⟨q1, q2, q3, q4, q5⟩ := count_fs D
 have ht : (counted K).turn = K.turn := by unfold counted; split <;> rfl
 have hinv := (h.count hf0).inv
 rw [ht] at hinv
 have hj' : D.count.fs[j]? = some g := by rw [q1]; exact hj
 have hi' : (D.count.rm j g u v).fs[i]? = some f := by show (D.count.fs.eraseIdx j)[i]? = _; rw [q1]; exact hi
 have hinv2 := hinv.rm (u := u) (v := v) hj'
 refine h.renamed hK hf0 hat0 hi0 hF ?_ (hinv2.named hi') ⟨rfl, rfl, rfl, rfl⟩
 have hg : g.name = t := atN_name hto hj
 have hf : f.name = s := atN_name hat0 hi0
 have hidne : f.id ≠ g.id := fun e => hst (by
  have h1 : (D.fs.map (·.id))[i0]? = some g.id := by rw [List.getElem?_map, hi0, ← e]; rfl
  have h2 : (D.fs.map (·.id))[j]? = some g.id := by rw [List.getElem?_map, hj]; rfl
  have e2 := (List.getElem?_inj (by rw [List.length_map]; exact (List.getElem?_eq_some_iff.1 hi0).1) h.inv.ids).1 (h1.trans h2.symm)
  rw [e2, hj] at hi0
  cases hi0
  rw [← hf, hg])
 show ((nmM t, afM D.ws f) :: restA (restA (absM D) (nmM s)) (nmM t)).Perm (absW (D.count.ws.filter (keepW g.id 0)) ((D.count.fs.eraseIdx j).set i _))
 rw [q1, q2]
 have hrm := rm_abs (h.nodup hK) h.inv.ids hj
 have hn2 : ((absW (D.ws.filter (keepW g.id 0)) (D.fs.eraseIdx j)).map (·.1)).Nodup := by rw [hrm]; exact rest_names (h.nodup hK) _
 have hids2 : ((D.fs.eraseIdx j).map (·.id)).Nodup := h.inv.ids.sublist (List.Sublist.map _ (List.eraseIdx_sublist ..))
 have h9 := named_abs t hn2 hids2 hi
 rw [hrm, hg] at h9
 have e3 : afM (D.ws.filter (keepW g.id 0)) f = afM D.ws f := by unfold afM; rw [keep_other f.id hidne]
 rw [e3, hf, rest_comm] at h9
 refine List.Perm.trans h9.symm ?_
 subst hf
 exact List.Perm.refl _
theorem Eqv.wrote (h : Eqv K D ks) (hK : DiskAt w d K) {s : ByteArray} {n k : Nat} {f : MF} {C : RM} {data : ByteArray} {u v : Value} (ho : Opened D s k f C) (hf : C.fs[k]? = some f) (hn : n ≤ f.now.length) (hd : Written K s.data.toList n data K1) :
  (absL K1.files).Perm (absM (C.wrote k f (K.turn + 1) n data u v)) ∧ Inv (C.wrote k f (K.turn + 1) n data u v) (K.turn + 1) := by
 have hp := hd.abs (h.da hK)
 obtain ⟨q1, q2, q3, q4, q5⟩ := count_fs D
 obtain ⟨p1, p2, p3, p4⟩ := count_more D
 have hturn : ∀ x ∈ D.ws ++ [(⟨K.turn + 1, f.id, n, data⟩ : RW)], x.turn ≤ K.turn + 1 := fun x hx => by
  rcases List.mem_append.1 hx with q | q
  ·have := h.inv.tmax x q; omega
  ·obtain rfl := List.mem_singleton.1 q; exact Nat.le_refl _
 have hpw : (D.ws ++ [(⟨K.turn + 1, f.id, n, data⟩ : RW)]).Pairwise (fun x y => x.turn < y.turn) := by
  rw [List.pairwise_append]
  refine ⟨h.inv.turns, List.pairwise_singleton _ _, fun x hx y hy => ?_⟩
  obtain rfl := List.mem_singleton.1 hy
  have := h.inv.tmax x hx
  show x.turn < K.turn + 1
  omega
 have hoth : ∀ id, id ≠ f.id → wrM (D.ws ++ [(⟨K.turn + 1, f.id, n, data⟩ : RW)]) id = wrM D.ws id := fun id hne => by rw [wr_snoc, if_neg hne]
 have hmine : wrM (D.ws ++ [(⟨K.turn + 1, f.id, n, data⟩ : RW)]) f.id = wrM D.ws f.id ++ [(K.turn + 1, n, data)] := by rw [wr_snoc, if_pos rfl]
 have hafw : afM (D.ws ++ [(⟨K.turn + 1, f.id, n, data⟩ : RW)]) { f with now := putAt f.now n data, nv := u } = (afM D.ws f).write (K.turn + 1) n data := by
  unfold afM AF.write putAt
  rw [hmine]
 rcases ho with ⟨hat, hi, rfl⟩ | ⟨hat, rfl, hlt, lv, rfl, rfl⟩
 ·have hnm := atN_name hat hi
  subst hnm
  refine ⟨hp.trans ?_, ?_⟩
  ·show List.Perm _ (absW (D.count.ws ++ _) (D.count.fs.set k _))
   rw [q1, q2]
   have h9 := set_perm (ws := D.ws) (ws' := D.ws ++ [(⟨K.turn + 1, f.id, n, data⟩ : RW)]) (f' := { f with now := putAt f.now n data, nv := u }) (h.nodup hK) hi h.inv.ids hoth rfl
   rw [hafw] at h9
   refine List.Perm.trans ?_ h9.symm
   have e : getA (absM D) f.name.data.toList = some (afM D.ws f) := get_some hat hi
   rw [e]
   exact List.Perm.refl _
  ·have hs := h.inv.count.set (u := D.count.lv) (v := v) (t' := K.turn + 1) (f' := { f with now := putAt f.now n data, nv := u }) (ws' := D.ws ++ [(⟨K.turn + 1, f.id, n, data⟩ : RW)]) hf rfl (Nat.le_succ _) hpw hturn (fun x hx => by
     rcases List.mem_append.1 hx with q | q
     ·exact .inl (by rw [q2]; exact q)
     ·obtain rfl := List.mem_singleton.1 q; exact .inr rfl) (fun id hne => by rw [q2]; exact hoth id hne) (by
     rw [hmine]
     exact last_snoc (h.inv.redo f (List.mem_of_getElem? hi)) _ _ _ hn)
   show Inv { D.count with fs := D.count.fs.set k _, wv := v, ws := D.count.ws ++ _ } _
   rw [q2]
   exact hs
 ·have hn0 : n = 0 := by simpa using hn
  subst hn0
  have hnoid : ∀ g ∈ D.fs, g.id ≠ D.ids + 1 := fun g hg e => by have := (h.inv.idm g hg).2; omega
  have hnow : wrM D.ws (D.ids + 1) = [] := by
   unfold wrM
   rw [List.filter_eq_nil_iff.2 fun x hx => ?_]
   ·rfl
   ·obtain ⟨g, hg, e⟩ := h.inv.own x hx
    simp only [decide_eq_true_eq]
    exact fun e2 => hnoid g hg (e.trans e2)
  have hset : (D.count.fresh s lv).fs.set D.fs.length { (⟨s, D.ids + 1, [], [], false, .slice none 0 0, .slice none 0 0⟩ : MF) with now := putAt [] 0 data, nv := u } = D.fs ++ [{ (⟨s, D.ids + 1, [], [], false, .slice none 0 0, .slice none 0 0⟩ : MF) with now := putAt [] 0 data, nv := u }] := by
   show (D.count.fs ++ [_]).set _ _ = _
   rw [q1, List.set_append_right _ _ (Nat.le_refl _), Nat.sub_self]
   rfl
  refine ⟨hp.trans ?_, ?_⟩
  ·show List.Perm _ (absW (D.count.ws ++ _) ((D.count.fresh s lv).fs.set D.fs.length _))
   rw [hset, q2]
   have e : getA (absM D) s.data.toList = none := get_none hat
   rw [e]
   have e2 : absW (D.ws ++ [(⟨K.turn + 1, D.ids + 1, 0, data⟩ : RW)]) D.fs = absM D := by
    unfold absM absW
    apply List.map_congr_left
    intro g hg
    unfold afM
    rw [hoth g.id (hnoid g hg)]
   show List.Perm _ (absW (D.ws ++ [(⟨K.turn + 1, D.ids + 1, 0, data⟩ : RW)]) (D.fs ++ [_]))
   unfold absW at e2 ⊢
   rw [List.map_append, e2]
   have e3 : restA (absM D) s.data.toList = absM D := rest_noneA (get_none hat)
   rw [e3]
   have e4 : (((none : Option AF).getD ⟨[], [], false, []⟩).write (K.turn + 1) 0 data) = afM (D.ws ++ [(⟨K.turn + 1, D.ids + 1, 0, data⟩ : RW)]) { (⟨s, D.ids + 1, [], [], false, .slice none 0 0, .slice none 0 0⟩ : MF) with now := putAt [] 0 data, nv := u } := by
    unfold afM AF.write putAt
    rw [hmine, hnow]
    rfl
   rw [e4]
   exact (List.perm_append_singleton _ _).symm
  ·refine ⟨by show (D.count.ws ++ _).Pairwise _; rw [q2]; exact hpw, by show ∀ x ∈ D.count.ws ++ _, _; rw [q2]; exact hturn, fun x hx => ?_, ?_, fun g hg => ?_, ?_, fun g hg => ?_⟩
   ·have hx' : x ∈ D.ws ++ [(⟨K.turn + 1, D.ids + 1, 0, data⟩ : RW)] := by rw [← q2]; exact hx
    show ∃ f ∈ (D.count.fresh s lv).fs.set D.fs.length _, _
    rw [hset]
    rcases List.mem_append.1 hx' with q | q
    ·obtain ⟨g, hg, e⟩ := h.inv.own x q
     exact ⟨g, List.mem_append_left _ hg, e⟩
    ·obtain rfl := List.mem_singleton.1 q
     exact ⟨_, List.mem_append_right _ (List.mem_singleton.2 rfl), rfl⟩
   ·show (((D.count.fresh s lv).fs.set D.fs.length _).map (·.id)).Nodup
    rw [hset, List.map_append]
    refine List.nodup_append.2 ⟨h.inv.ids, by simp, fun a ha b hb => ?_⟩
    obtain ⟨g, hg, rfl⟩ := List.mem_map.1 ha
    simp only [List.map_cons, List.map_nil, List.mem_singleton] at hb
    rw [hb]
    exact hnoid g hg
   ·have hg' : g ∈ (D.count.fresh s lv).fs.set D.fs.length _ := hg
    rw [hset] at hg'
    show 1 ≤ g.id ∧ g.id ≤ D.count.ids + 1
    rw [p1]
    rcases List.mem_append.1 hg' with q | q
    ·have := h.inv.idm g q; omega
    ·obtain rfl := List.mem_singleton.1 q
     exact ⟨Nat.le_add_left _ _, Nat.le_refl _⟩
   ·show D.count.ids + 1 ≤ K.turn + 1
    rw [p1]
    have := h.inv.idt
    omega
   ·have hg' : g ∈ (D.count.fresh s lv).fs.set D.fs.length _ := hg
    rw [hset] at hg'
    show LastOk (wrM (D.count.ws ++ _) g.id) g.now
    rw [q2]
    rcases List.mem_append.1 hg' with q | q
    ·have e5 := hoth g.id (hnoid g q)
     show LastOk (wrM (D.ws ++ [(⟨K.turn + 1, D.ids + 1, 0, data⟩ : RW)]) g.id) g.now
     rw [e5]
     exact h.inv.redo g q
    ·obtain rfl := List.mem_singleton.1 q
     show LastOk (wrM (D.ws ++ [(⟨K.turn + 1, D.ids + 1, 0, data⟩ : RW)]) (D.ids + 1)) (putAt [] 0 data)
     rw [hmine, hnow]
     exact last_snoc (last_nil []) _ 0 _ (Nat.le_refl _)
end
end Go.Proofs.YtbkngnjkaledlaaGreat.P4
namespace Go.Proofs.YtbkngnjkaledlaaGreat.P4
open Go Go.RowKit Go.Lib Go.Maps Go.ChangeMaps Go.MapKept P3
section
variable {w w' w1 w2 : World} {d r : Nat} {K K1 : Dk} {D D1 : RM} {ks : List Int}
theorem Eqv.sizes (h : Eqv K D ks) (hK : DiskAt w d K) (ht : K.turn ≤ 9000) : (∀ x ∈ D.ws, x.pos ≤ 4000 ∧ x.data.size = 256 ∧ x.file ≤ 1000000) ∧ (∀ f ∈ D.fs, f.id ≤ 1000000 ∧ ∀ s ∈ f.safe, s.size = 256) ∧ D.ids < 1000000 ∧ (∀ f ∈ D.fs, f.name.size ≤ 1000) := by
 have hid : ∀ f ∈ D.fs, f.id ≤ 9000 := fun f hf => by have := (h.inv.idm f hf).2; have := h.inv.idt; omega
 refine ⟨fun x hx => ?_, fun f hf => ⟨by have := hid f hf; omega, fun s hs => ?_⟩, by have := h.inv.idt; omega, fun f hf => ?_⟩
 ·have h1 : (x.turn, x.pos, x.data) ∈ wsA (absM D) := (ws_perm h.inv).mem_iff.2 (List.mem_map.2 ⟨x, hx, rfl⟩)
  have h2 := (wsA_perm h.abs).mem_iff.2 h1
  rw [wsA_abs] at h2
  obtain ⟨y, hy, e⟩ := List.mem_map.1 h2
  obtain ⟨p, hp, hyp⟩ := allW_mem.1 hy
  have ok := hK.files.ok p hp
  have e2 : y.pos = x.pos := congrArg (fun z : Nat × Nat × ByteArray => z.2.1) e
  have e3 : y.data = x.data := congrArg (fun z : Nat × Nat × ByteArray => z.2.2) e
  have h4 := ok.pos y hyp
  have h5 := ok.room
  refine ⟨by omega, by rw [← e3]; exact ok.data y hyp, ?_⟩
  obtain ⟨f, hf, e4⟩ := h.inv.own x hx
  rw [← e4]
  have := hid f hf
  omega
 ·have h1 : (nmM f.name, afM D.ws f) ∈ absM D := List.mem_map.2 ⟨f, hf, rfl⟩
  obtain ⟨p, hp, e⟩ := List.mem_map.1 (h.abs.mem_iff.2 h1)
  have ok := hK.files.ok p hp
  have e2 : p.2.abs = afM D.ws f := congrArg (·.2) e
  have e4 : (p.2.secs.take p.2.ns).map (·.safe) = f.safe := congrArg AF.safe e2
  rw [← e4] at hs
  obtain ⟨c, hc, rfl⟩ := List.mem_map.1 hs
  obtain ⟨i, hi⟩ := List.getElem?_of_mem hc
  rw [List.getElem?_take] at hi
  split at hi
  ·rename_i hlt
   exact (ok.safe i c hi).1 hlt
  ·cases hi
 ·have h1 : (nmM f.name, afM D.ws f) ∈ absM D := List.mem_map.2 ⟨f, hf, rfl⟩
  obtain ⟨p, hp, e⟩ := List.mem_map.1 (h.abs.mem_iff.2 h1)
  have e3 : p.1 = nmM f.name := congrArg (·.1) e
  have := hK.files.long p hp
  rw [e3] at this
  unfold nmM at this
  rw [Array.length_toList] at this
  show f.name.data.size ≤ 1000
  omega
structure Pr (a w : World) (d : Nat) (K : Dk) (r : Nat) (D : RM) (ks : List Int) : Prop where
 at1 : DiskAt w d K
 at2 : RAt a.heap.size w r D
 eqv : Eqv K D ks
 kint : IntsIn a D.kv ks
 f1 : ∀ k, K.foot d k → a.heap.size ≤ k
 apart : ∀ k, K.foot d k → ¬ D.foot r k
 below : Below a.heap.size a w
variable {a : World}
theorem Pr.over (h : Pr a w d K r D ks) (hb : Below w.heap.size w w') : Pr a w' d K r D ks := ⟨h.at1.below hb, h.at2.below hb, h.eqv, h.kint, h.f1, h.apart, thenBelow h.below hb⟩
theorem Pr.intsR (h : Pr a w d K r D ks) {S : Nat → Prop} (hS : ∀ k, S k → a.heap.size ≤ k) {v : Value} {xs : List Int} (hv : IntsIn a v xs) : IntsR S w v xs := by
 obtain ⟨p, c, rfl, _, h3⟩ := hv
 by_cases h0 : 0 < xs.length
 ·obtain ⟨b, off, rfl, hb, hc⟩ := h3 h0
  refine .inr ⟨b, off, c, rfl, Nat.lt_of_lt_of_le hb h.below.size, fun q => by have := hS b q; omega, fun j x hj => ?_⟩
  have hl := (List.getElem?_eq_some_iff.1 hj).1
  rw [h.below.cell (p := ⟨b, off + j, none⟩) hb, hc j hl, List.getD_eq_getElem?_getD, hj]
  rfl
 ·obtain rfl : xs = [] := List.eq_nil_of_length_eq_zero (by omega)
  exact .inl ⟨p, c, rfl, rfl⟩
theorem Pr.own_lo (h : Pr a w d K r D ks) : ∀ k, D.own r k → a.heap.size ≤ k := fun _ hk => (h.at2.own_lt hk).1
structure PStep (a w : World) (d : Nat) (K : Dk) (r : Nat) (D : RM) (w' : World) (K1 : Dk) (D1 : RM) (ks : List Int) : Prop where
 pr : Pr a w' d K1 r D1 ks
 kf : ∀ k, K1.foot d k → K.foot d k ∨ w.heap.size ≤ k
 df : ∀ k, D1.foot r k → D.foot r k ∨ w.heap.size ≤ k
 do_ : ∀ k, D1.own r k → D.own r k ∨ w.heap.size ≤ k
 fr : Fr (fun k => K.foot d k ∨ D.own r k) w w'
 tn : K1.turn ≤ K.turn + 1
theorem Pr.step {ks' : List Int} (h : Pr a w d K r D ks) (h1 : Step w d K w1 K1) (h2 : RStep a.heap.size w1 r D w2 D1) (he : Eqv K1 D1 ks') (hk : IntsIn a D1.kv ks') (ht : K1.turn ≤ K.turn + 1) : PStep a w d K r D w2 K1 D1 ks' := by
 have hlw : ∀ k, D.foot r k → k < w.heap.size := fun k hk => h.at2.foot_lt hk
 have hap1 : ∀ k, K1.foot d k → ¬ D.foot r k := fun k hk q => by
  rcases h1.foot k hk with e | e
  ·exact h.apart k e q
  ·have := hlw k q; omega
 have hsz : w.heap.size ≤ w1.heap.size := h1.fr.size
 have hK1 : ∀ k, K1.foot d k → k < w1.heap.size := h1.at'.foot_lt
 refine ⟨⟨h1.at'.fr h2.fr fun k hk q => hap1 k hk (.inl q), h2.at', he, hk, fun k hk => ?_, fun k hk q => ?_, ?_⟩, h1.foot, fun k hk => ?_, fun k hk => ?_, ?_, ht⟩
 ·rcases h1.foot k hk with e | e
  ·exact h.f1 k e
  ·exact Nat.le_trans h.below.size e
 ·rcases h2.foot k q with e | e
  ·exact hap1 k hk e
  ·have := hK1 k hk; omega
 ·exact Fr.new (Fr.new h.below h1.fr h.f1) h2.fr h.own_lo
 ·rcases h2.foot k hk with e | e
  ·exact .inl e
  ·exact .inr (by omega)
 ·rcases h2.own k hk with e | e
  ·exact .inl e
  ·exact .inr (by omega)
 ·exact (h1.fr.mono fun k _ hk => .inl hk).trans (h2.fr.mono fun k _ hk => .inr hk)
theorem Pr.at2' (h : Pr a w d K r D ks) (h1 : Step w d K w1 K1) : RAt a.heap.size w1 r D := h.at2.frS h1.fr fun k hk q => h.apart k q hk
theorem Pr.kvs (h : Pr a w d K r D ks) : ∃ p m c, D.kv = .slice p m c := by
 obtain ⟨p, c, e, _⟩ := h.kint
 exact ⟨p, _, c, e⟩
def Two (a w : World) (d : Nat) (K : Dk) (r : Nat) (D : RM) (ks : List Int) (f1 f2 : Nat) (a1 a2 : Array Value) : Prop :=
 Calls Tryz.prog f1 a1 w fun e w1 => ∃ z : Int, e = .returned (.int .i64 z) ∧ Fr (K.foot d) w w1 ∧ ∀ W, Below w1.heap.size w1 W → Calls Tryz.prog f2 a2 W fun e w2 => e = .returned (.int .i64 z) ∧ ∃ K1 D1, PStep a w d K r D w2 K1 D1 ks
theorem Pr.two (h : Pr a w d K r D ks) {f1 f2 : Nat} {a1 a2 : Array Value} {Q : Int → Dk → World → Prop}
  (c1 : Calls Tryz.prog f1 a1 w fun e w1 => ∃ z K1, e = .returned (.int .i64 z) ∧ Step w d K w1 K1 ∧ Q z K1 w1)
  (c2 : ∀ w1 z K1, Q z K1 w1 → ∀ W, RAt a.heap.size W r D → Pr a w d K r D ks → (∀ S : Nat → Prop, (∀ k, S k → a.heap.size ≤ k) → IntsR S W D.kv ks) → Calls Tryz.prog f2 a2 W fun e w2 => e = .returned (.int .i64 z) ∧ ∃ D1, RStep a.heap.size W r D w2 D1 ∧ Eqv K1 D1 ks ∧ D1.kv = D.kv ∧ K1.turn ≤ K.turn + 1) :
  Two a w d K r D ks f1 f2 a1 a2 := by
 refine c1.mono ?_
 rintro e w1 ⟨z, K1, rfl, hs, hq⟩
 refine ⟨z, rfl, hs.fr, fun W hW => ?_⟩
 have hs2 := hs.trans (Step.below hs.at' hW)
 have hb2 : Below a.heap.size a W := Fr.new h.below hs2.fr h.f1
 have hi : ∀ S : Nat → Prop, (∀ k, S k → a.heap.size ≤ k) → IntsR S W D.kv ks := fun S hS => by
  obtain ⟨p, c, e, _, h3⟩ := h.kint
  rw [e]
  by_cases h0 : 0 < ks.length
  ·obtain ⟨b, off, rfl, hb, hc⟩ := h3 h0
   refine .inr ⟨b, off, c, rfl, Nat.lt_of_lt_of_le hb hb2.size, fun q => by have := hS b q; omega, fun j x hj => ?_⟩
   have hl := (List.getElem?_eq_some_iff.1 hj).1
   rw [hb2.cell (p := ⟨b, off + j, none⟩) hb, hc j hl, List.getD_eq_getElem?_getD, hj]
   rfl
  ·obtain rfl : ks = [] := List.eq_nil_of_length_eq_zero (by omega)
   exact .inl ⟨p, c, rfl, rfl⟩
 refine (c2 w1 z K1 hq W (h.at2' hs2) h hi).mono ?_
 rintro e w2 ⟨rfl, D1, h5, h6, h7, h8⟩
 exact ⟨rfl, K1, D1, h.step hs2 h5 h6 (by rw [h7]; exact h.kint) h8⟩
theorem CrashP.kv {lo : Nat} {e : Ending} {xs : List Int} (h : CrashP lo w r D xs e w') : ∃ E, RStep lo w r D w' E ∧ CrM D E (kapM xs) := by
 obtain ⟨E, _, h1, h2⟩ := h
 exact ⟨E, h1, h2⟩
theorem Pr.rcr (h : Pr a w d K r D ks) (ht : K.turn ≤ 9000) (ho : D.off = false) {W : World} (hW : RAt a.heap.size W r D) (hi : IntsR (D.own r) W D.kv ks) : Calls Tryz.prog 48 #[.pointer (some ⟨r, 0, none⟩), D.kv] W (CrashP a.heap.size W r D ks) := by
 obtain ⟨s1, s2, _, _⟩ := h.eqv.sizes h.at1 ht
 exact hW.crash ho ks D.kv hi s1 s2
theorem count_turn (K : Dk) : (counted K).turn = K.turn := by unfold counted; split <;> rfl
theorem count_kv (D : RM) : D.count.kv = D.kv := (count_fs D).2.2.2.2
theorem Eqv.fb1 (h : Eqv K D ks) (h2 : K.armed = true) (h3 : ¬ 0 < K.left) : D.fallsB = true ∧ K.keep = ks := by
 cases hb : D.fallsB with
 | true => exact ⟨rfl, (h.falls.1 hb).2.2⟩
 | false =>
  rcases h.falls.2 hb with q | q
  ·rw [h2] at q; cases q
  ·exact absurd q h3
theorem Eqv.fb0 (h : Eqv K D ks) (h2 : K.armed = false ∨ 0 < K.left) : D.fallsB = false := by
 cases hb : D.fallsB with
 | false => rfl
 | true =>
  obtain ⟨q1, q2, _⟩ := h.falls.1 hb
  rcases h2 with q | q
  ·rw [q1] at q; cases q
  ·exact absurd q q2
theorem two_sync (h : Pr a w d K r D ks) (ht : K.turn < 9000) (s : ByteArray) (hs : s.size ≤ maxLen) : Two a w d K r D ks 50 13 #[.pointer (some ⟨d, 0, none⟩), .string s] #[.pointer (some ⟨r, 0, none⟩), .string s] := by
 have he := h.eqv.errF h.at1 s
 obtain ⟨s1, s2, s3, s4⟩ := h.eqv.sizes h.at1 (by omega)
 refine h.two (Q := fun x K1 w1 => (errR D s ≠ 0 ∧ x = errR D s ∧ K1 = K) ∨ (errR D s = 0 ∧ D.fallsB = true ∧ x = 14 ∧ ∃ w0 n, DiskAt w0 d K ∧ Crashed w0 d K ks n K1 w1) ∨ (errR D s = 0 ∧ D.fallsB = false ∧ x = 0 ∧ ∃ F, getF K.files s.data.toList = some F ∧ K1 = { counted K with files := (s.data.toList, F.sync) :: restF K.files s.data.toList })) ((h.at1.sync s hs h.eqv.leftle).mono fun e w1 hp => ?_) ?_
 ·cases hp with
  | err h1 h2 => rw [he] at h1 ⊢; exact ⟨_, K, rfl, Step.below h.at1 h2, .inl ⟨h1, rfl, rfl⟩⟩
  | @falls w0 _ n K' h1 h2 h3 h4 h5 =>
   rw [he] at h1
   obtain ⟨hfb, hk⟩ := h.eqv.fb1 h2 h3
   rw [hk] at h5
   exact ⟨_, K', rfl, (Step.below h.at1 h4).trans h5.step, .inr (.inl ⟨h1, hfb, rfl, w0, n, h.at1.below h4, h5⟩)⟩
  | @done _ F h1 h2 h3 h4 =>
   rw [he] at h1
   exact ⟨_, _, rfl, h4, .inr (.inr ⟨h1, h.eqv.fb0 h2, rfl, F, h3, rfl⟩)⟩
 ·intro w1 x K1 hq W hW hP hi
  refine (hW.sync2 s ks h.eqv.h0 h.eqv.nle (fun f hf => (s2 f hf).1) (fun x hx => ⟨(s1 x hx).2.2, by have := (s1 x hx).1; omega⟩) h.kvs (fun ho W' hW' hF => h.rcr (by omega) ho hW' ((hi _ fun k hk => (hW.own_lt hk).1).fr hF))).mono ?_
  rintro e w2 hr
  cases hr with
  | err h1 h2 h3 =>
   rcases hq with ⟨_, rfl, rfl⟩ | ⟨q1, _⟩ | ⟨q1, _⟩
   ·exact ⟨h2, D, RStep.below hW h3, h.eqv, rfl, Nat.le_succ _⟩
   ·exact absurd q1 h1
   ·exact absurd q1 h1
  | falls h1 h2 h3 n hc =>
   rcases hq with ⟨q1, _⟩ | ⟨_, _, rfl, w0, n0, hK0, hcr⟩ | ⟨_, q2, _⟩
   ·exact absurd h1 q1
   ·obtain ⟨E, hs, hcm⟩ := hc.kv
    exact ⟨h3, E, hs, (h.eqv.crash hK0 hcr hcm).2, hcm.kv, by rw [hcr.eq]; exact Nat.le_succ _⟩
   ·rw [h2] at q2; cases q2
  | done h1 h2 h3 i f hat hi' u hs' =>
   rcases hq with ⟨q1, _⟩ | ⟨_, q2, _⟩ | ⟨_, _, rfl, hK1⟩
   ·exact absurd h1 q1
   ·rw [h2] at q2; cases q2
   ·obtain ⟨F, hF, rfl⟩ := hK1
    exact ⟨h3, _, hs', h.eqv.sync h.at1 h2 hat hi' hF, count_kv D, by show (counted K).turn ≤ _; rw [count_turn]; exact Nat.le_succ _⟩
theorem two_cut (h : Pr a w d K r D ks) (ht : K.turn < 9000) (s : ByteArray) (z : Int) (hs : s.size ≤ maxLen) : Two a w d K r D ks 53 54 #[.pointer (some ⟨d, 0, none⟩), .string s, .int .i64 z] #[.pointer (some ⟨r, 0, none⟩), .string s, .int .i64 z] := by
 have he := h.eqv.cutE h.at1 s z
 obtain ⟨s1, s2, s3, s4⟩ := h.eqv.sizes h.at1 (by omega)
 refine h.two (Q := fun x K1 w1 => (cutErr D s z ≠ 0 ∧ x = cutErr D s z ∧ K1 = K) ∨ (cutErr D s z = 0 ∧ D.fallsB = true ∧ x = 14 ∧ ∃ w0 n, DiskAt w0 d K ∧ Crashed w0 d K ks n K1 w1) ∨ (cutErr D s z = 0 ∧ D.fallsB = false ∧ x = 0 ∧ ∃ F sl, getF K.files s.data.toList = some F ∧ K1 = { counted K with files := (s.data.toList, F.cut sl z.toNat) :: restF K.files s.data.toList })) ((h.at1.cut s z hs h.eqv.leftle).mono fun e w1 hp => ?_) ?_
 ·cases hp with
  | err h1 h2 => rw [he] at h1 ⊢; exact ⟨_, K, rfl, Step.below h.at1 h2, .inl ⟨h1, rfl, rfl⟩⟩
  | @falls w0 _ n K' h1 h2 h3 h4 h5 =>
   rw [he] at h1
   obtain ⟨hfb, hk⟩ := h.eqv.fb1 h2 h3
   rw [hk] at h5
   exact ⟨_, K', rfl, (Step.below h.at1 h4).trans h5.step, .inr (.inl ⟨h1, hfb, rfl, w0, n, h.at1.below h4, h5⟩)⟩
  | @done _ F sl h1 h2 h3 h4 =>
   rw [he] at h1
   exact ⟨_, _, rfl, h4, .inr (.inr ⟨h1, h.eqv.fb0 h2, rfl, F, sl, h3, rfl⟩)⟩
 ·intro w1 x K1 hq W hW hP hi
  refine (hW.cut_ s z ks h.eqv.h0 h.eqv.nle (fun f hf => (s2 f hf).1) (fun x hx => ⟨(s1 x hx).2.2, by have := (s1 x hx).1; omega⟩) h.kvs (fun ho W' hW' hF => h.rcr (by omega) ho hW' ((hi _ fun k hk => (hW.own_lt hk).1).fr hF))).mono ?_
  rintro e w2 hr
  cases hr with
  | err h1 h2 h3 =>
   rcases hq with ⟨_, rfl, rfl⟩ | ⟨q1, _⟩ | ⟨q1, _⟩
   ·exact ⟨h2, D, RStep.below hW h3, h.eqv, rfl, Nat.le_succ _⟩
   ·exact absurd q1 h1
   ·exact absurd q1 h1
  | falls h1 h2 h3 n wm hbm hc =>
   rcases hq with ⟨q1, _⟩ | ⟨_, _, rfl, w0, n0, hK0, hcr⟩ | ⟨_, q2, _⟩
   ·exact absurd h1 q1
   ·obtain ⟨E, hs, hcm⟩ := hc.kv
    exact ⟨h3, E, (RStep.below hW hbm).trans hs, (h.eqv.crash hK0 hcr hcm).2, hcm.kv, by rw [hcr.eq]; exact Nat.le_succ _⟩
   ·rw [h2] at q2; cases q2
  | done h1 h2 h3 i n f hz hn hat hi' u v1 v2 hs' =>
   rcases hq with ⟨q1, _⟩ | ⟨_, q2, _⟩ | ⟨_, _, rfl, hK1⟩
   ·exact absurd h1 q1
   ·rw [h2] at q2; cases q2
   ·obtain ⟨F, sl, hF, rfl⟩ := hK1
    subst hz
    exact ⟨h3, _, hs', h.eqv.cut h.at1 h2 hat hi' hF, count_kv D, by show (counted K).turn ≤ _; rw [count_turn]; exact Nat.le_succ _⟩
theorem two_remove (h : Pr a w d K r D ks) (ht : K.turn < 9000) (s : ByteArray) (hs : s.size ≤ maxLen) : Two a w d K r D ks 57 58 #[.pointer (some ⟨d, 0, none⟩), .string s] #[.pointer (some ⟨r, 0, none⟩), .string s] := by
 have he := h.eqv.errF h.at1 s
 obtain ⟨s1, s2, s3, s4⟩ := h.eqv.sizes h.at1 (by omega)
 refine h.two (Q := fun x K1 w1 => (errR D s ≠ 0 ∧ x = errR D s ∧ K1 = K) ∨ (errR D s = 0 ∧ D.fallsB = true ∧ x = 14 ∧ ∃ w0 n, DiskAt w0 d K ∧ Crashed w0 d K ks n K1 w1) ∨ (errR D s = 0 ∧ D.fallsB = false ∧ x = 0 ∧ K1 = { counted K with files := restF K.files s.data.toList })) ((h.at1.remove s hs h.eqv.leftle).mono fun e w1 hp => ?_) ?_
 ·cases hp with
  | err h1 h2 => rw [he] at h1 ⊢; exact ⟨_, K, rfl, Step.below h.at1 h2, .inl ⟨h1, rfl, rfl⟩⟩
  | @falls w0 _ n K' h1 h2 h3 h4 h5 =>
   rw [he] at h1
   obtain ⟨hfb, hk⟩ := h.eqv.fb1 h2 h3
   rw [hk] at h5
   exact ⟨_, K', rfl, (Step.below h.at1 h4).trans h5.step, .inr (.inl ⟨h1, hfb, rfl, w0, n, h.at1.below h4, h5⟩)⟩
  | @done _ h1 h2 h4 =>
   rw [he] at h1
   exact ⟨_, _, rfl, h4, .inr (.inr ⟨h1, h.eqv.fb0 h2, rfl, rfl⟩)⟩
 ·intro w1 x K1 hq W hW hP hi
  refine (hW.remove s ks h.eqv.h0 h.eqv.nle (fun f hf => (s2 f hf).1) (fun x hx => ⟨(s1 x hx).2.2, by have := (s1 x hx).1; omega⟩) h.kvs (fun ho W' hW' hF => h.rcr (by omega) ho hW' ((hi _ fun k hk => (hW.own_lt hk).1).fr hF))).mono ?_
  rintro e w2 hr
  cases hr with
  | err h1 h2 h3 =>
   rcases hq with ⟨_, rfl, rfl⟩ | ⟨q1, _⟩ | ⟨q1, _⟩
   ·exact ⟨h2, D, RStep.below hW h3, h.eqv, rfl, Nat.le_succ _⟩
   ·exact absurd q1 h1
   ·exact absurd q1 h1
  | falls h1 h2 h3 n hc =>
   rcases hq with ⟨q1, _⟩ | ⟨_, _, rfl, w0, n0, hK0, hcr⟩ | ⟨_, q2, _⟩
   ·exact absurd h1 q1
   ·obtain ⟨E, hs, hcm⟩ := hc.kv
    exact ⟨h3, E, hs, (h.eqv.crash hK0 hcr hcm).2, hcm.kv, by rw [hcr.eq]; exact Nat.le_succ _⟩
   ·rw [h2] at q2; cases q2
  | done h1 h2 h3 i f hat hi' u v hs' =>
   rcases hq with ⟨q1, _⟩ | ⟨_, q2, _⟩ | ⟨_, _, rfl, hK1⟩
   ·exact absurd h1 q1
   ·rw [h2] at q2; cases q2
   ·subst hK1
    exact ⟨h3, _, hs', h.eqv.remove h.at1 h2 hat hi', count_kv D, by show (counted K).turn ≤ _; rw [count_turn]; exact Nat.le_succ _⟩
theorem two_rename (h : Pr a w d K r D ks) (ht : K.turn < 9000) (s t : ByteArray) (hs : s.size ≤ maxLen) : Two a w d K r D ks 55 56 #[.pointer (some ⟨d, 0, none⟩), .string s, .string t] #[.pointer (some ⟨r, 0, none⟩), .string s, .string t] := by
 have he := h.eqv.renE h.at1 s t
 obtain ⟨s1, s2, s3, s4⟩ := h.eqv.sizes h.at1 (by omega)
 refine h.two (Q := fun x K1 w1 => (errN D s t ≠ 0 ∧ x = errN D s t ∧ K1 = K) ∨ (errN D s t = 0 ∧ D.fallsB = true ∧ x = 14 ∧ ∃ w0 n, DiskAt w0 d K ∧ Crashed w0 d K ks n K1 w1) ∨ (errN D s t = 0 ∧ D.fallsB = false ∧ x = 0 ∧ ∃ F, getF K.files s.data.toList = some F ∧ K1 = { counted K with files := renF K.files s.data.toList t.data.toList F })) ((h.at1.renames s t hs h.eqv.leftle).mono fun e w1 hp => ?_) ?_
 ·cases hp with
  | err h1 h2 => rw [he] at h1 ⊢; exact ⟨_, K, rfl, Step.below h.at1 h2, .inl ⟨h1, rfl, rfl⟩⟩
  | @falls w0 _ n K' h1 h2 h3 h4 h5 =>
   rw [he] at h1
   obtain ⟨hfb, hk⟩ := h.eqv.fb1 h2 h3
   rw [hk] at h5
   exact ⟨_, K', rfl, (Step.below h.at1 h4).trans h5.step, .inr (.inl ⟨h1, hfb, rfl, w0, n, h.at1.below h4, h5⟩)⟩
  | @done _ F h1 h2 h3 h4 =>
   rw [he] at h1
   exact ⟨_, _, rfl, h4, .inr (.inr ⟨h1, h.eqv.fb0 h2, rfl, F, h3, rfl⟩)⟩
 ·intro w1 x K1 hq W hW hP hi
  refine (hW.rename s t ks h.eqv.h0 h.eqv.nle (fun f hf => (s2 f hf).1) (fun x hx => ⟨(s1 x hx).2.2, by have := (s1 x hx).1; omega⟩) h.kvs (fun ho W' hW' hF => h.rcr (by omega) ho hW' ((hi _ fun k hk => (hW.own_lt hk).1).fr hF))).mono ?_
  rintro e w2 hr
  cases hr with
  | err h1 h2 h3 =>
   rcases hq with ⟨_, rfl, rfl⟩ | ⟨q1, _⟩ | ⟨q1, _⟩
   ·exact ⟨h2, D, RStep.below hW h3, h.eqv, rfl, Nat.le_succ _⟩
   ·exact absurd q1 h1
   ·exact absurd q1 h1
  | falls h1 h2 h3 n hc =>
   rcases hq with ⟨q1, _⟩ | ⟨_, _, rfl, w0, n0, hK0, hcr⟩ | ⟨_, q2, _⟩
   ·exact absurd h1 q1
   ·obtain ⟨E, hs, hcm⟩ := hc.kv
    exact ⟨h3, E, hs, (h.eqv.crash hK0 hcr hcm).2, hcm.kv, by rw [hcr.eq]; exact Nat.le_succ _⟩
   ·rw [h2] at q2; cases q2
  | same h1 h2 h3 hst hs' =>
   rcases hq with ⟨q1, _⟩ | ⟨_, q2, _⟩ | ⟨_, _, rfl, hK1⟩
   ·exact absurd h1 q1
   ·rw [h2] at q2; cases q2
   ·obtain ⟨F, hF, rfl⟩ := hK1
    subst hst
    obtain ⟨i, f, hat, hi'⟩ : ∃ i f, atN D.fs s = some i ∧ D.fs[i]? = some f := by
     cases ha : atN D.fs s with
     | none =>
      rw [h.eqv.getNone h.at1 ha] at hF
      cases hF
     | some i =>
      obtain ⟨f, hf, _⟩ := atN_some ha
      exact ⟨i, f, rfl, hf⟩
    exact ⟨h3, _, hs', h.eqv.ren_same h.at1 h2 hat hi' hF, count_kv D, by show (counted K).turn ≤ _; rw [count_turn]; exact Nat.le_succ _⟩
  | move h1 h2 h3 hst hno i f hat hi' hs' =>
   rcases hq with ⟨q1, _⟩ | ⟨_, q2, _⟩ | ⟨_, _, rfl, hK1⟩
   ·exact absurd h1 q1
   ·rw [h2] at q2; cases q2
   ·obtain ⟨F, hF, rfl⟩ := hK1
    exact ⟨h3, _, hs', h.eqv.ren_move h.at1 h2 hst hno hat hi' hF, count_kv D, by show (counted K).turn ≤ _; rw [count_turn]; exact Nat.le_succ _⟩
  | over h1 h2 h3 hst j g hto hj i f u v hat hi' i0 hi0 hat0 hs' =>
   rcases hq with ⟨q1, _⟩ | ⟨_, q2, _⟩ | ⟨_, _, rfl, hK1⟩
   ·exact absurd h1 q1
   ·rw [h2] at q2; cases q2
   ·obtain ⟨F, hF, rfl⟩ := hK1
    exact ⟨h3, _, hs', h.eqv.ren_over h.at1 h2 hst hto hj hat0 hi0 hat hi' hF, count_kv D, by show (counted K).turn ≤ _; rw [count_turn]; exact Nat.le_succ _⟩
theorem two_write (h : Pr a w d K r D ks) (ht : K.turn < 8999) (s : ByteArray) (i : Int) (data : ByteArray) (hs : s.size ≤ maxLen) (hdm : data.size ≤ maxLen) : Two a w d K r D ks 41 37 #[.pointer (some ⟨d, 0, none⟩), .string s, .int .i64 i, .string data] #[.pointer (some ⟨r, 0, none⟩), .string s, .int .i64 i, .string data] := by
 have he := h.eqv.writeE h.at1 s i data.size
 obtain ⟨s1, s2, s3, s4⟩ := h.eqv.sizes h.at1 (by omega)
 have hwl : D.ws.length < 9000 := by have h1 := h.eqv.dirty; have h2 := h.at1.many.1; omega
 refine h.two (Q := fun x K1 w1 => (errW D s i data.size ≠ 0 ∧ x = errW D s i data.size ∧ K1 = K) ∨ (errW D s i data.size = 0 ∧ D.fallsB = true ∧ x = 14 ∧ ∃ w0 K0 n, DiskAt w0 d K0 ∧ Written K s.data.toList i.toNat data K0 ∧ Crashed w0 d K0 ks n K1 w1) ∨ (errW D s i data.size = 0 ∧ D.fallsB = false ∧ x = 0 ∧ ∃ K0, Written K s.data.toList i.toNat data K0 ∧ K1 = counted K0)) ((h.at1.write s i data hs h.eqv.leftle (by omega)).mono fun e w1 hp => ?_) ?_
 ·rcases hp with ⟨h1, h2, h3⟩ | ⟨h1, w0, K0, hst, hwr, hcp⟩
  ·rw [he] at h1 h2
   exact ⟨_, K, h2, Step.below h.at1 h3, .inl ⟨h1, rfl, rfl⟩⟩
  ·rw [he] at h1
   have hsm := hwr.same
   have e1 : K0.armed = K.armed := by rw [hsm]
   have e2 : K0.left = K.left := by rw [hsm]
   have e3 : K0.keep = K.keep := by rw [hsm]
   obtain ⟨x, K', rfl, hc⟩ := hcp
   cases hc with
   | free q1 q2 q3 => exact ⟨0, K0, rfl, hst.trans (Step.below hst.at' q2), .inr (.inr ⟨h1, h.eqv.fb0 (.inl (by rw [← e1]; exact q1)), rfl, K0, hwr, by unfold counted; rw [if_neg (by rw [q1]; decide)]⟩)⟩
   | less q1 q2 q3 => exact ⟨0, _, rfl, hst.trans q3, .inr (.inr ⟨h1, h.eqv.fb0 (.inr (by rw [← e2]; exact q2)), rfl, K0, hwr, by unfold counted; rw [if_pos q1]⟩)⟩
   | @falls _ _ _ n _ q1 q2 q3 =>
    obtain ⟨hfb, hk⟩ := h.eqv.fb1 (by rw [← e1]; exact q1) (by rw [← e2]; exact q2)
    rw [e3, hk] at q3
    exact ⟨14, K', rfl, hst.trans q3.step, .inr (.inl ⟨h1, hfb, rfl, w0, K0, n, hst.at', hwr, q3⟩)⟩
 ·intro w1 x K1 hq W hW hP hi
  by_cases hbad : D.off = true ∨ nameOk s = false ∨ data.size ≠ 256
  ·have hne : errW D s i data.size ≠ 0 := by
    unfold errW
    by_cases ho : D.off = true
    ·rw [if_pos ho]; decide
    ·rw [if_neg ho]
     rcases hbad with q | q | q
     ·exact absurd q ho
     ·rw [if_pos (.inl q)]; decide
     ·rw [if_pos (.inr q)]; decide
   refine (hW.write_err1 s i data hdm hbad).mono ?_
   rintro e w2 ⟨h1, rfl⟩
   rcases hq with ⟨_, rfl, rfl⟩ | ⟨q1, _⟩ | ⟨q1, _⟩
   ·exact ⟨h1, D, RStep.below hW (Below.refl _ _), h.eqv, rfl, Nat.le_succ _⟩
   ·exact absurd q1 hne
   ·exact absurd q1 hne
  ·have ho : D.off = false := by cases hb : D.off with | false => rfl | true => exact absurd (.inl hb) hbad
   have hn : nameOk s = true := by cases hb : nameOk s with | true => rfl | false => exact absurd (.inr (.inl hb)) hbad
   have hd : data.size = 256 := Decidable.not_not.1 fun q => hbad (.inr (.inr q))
   refine (hW.write_main s i data (K.turn + 1) ks ho hn hd h.eqv.h0 h.eqv.nle hwl s3 s2 s1 (hi _ fun k hk => (hW.own_lt hk).1)).mono ?_
   rintro e w2 hr
   cases hr with
   | err h1 h2 h3 =>
    rcases hq with ⟨_, rfl, rfl⟩ | ⟨q1, _⟩ | ⟨q1, _⟩
    ·exact ⟨h2, D, RStep.below hW h3, h.eqv, rfl, Nat.le_succ _⟩
    ·exact absurd q1 h1
    ·exact absurd q1 h1
   | done h1 hfb h2 n k f C u v hin hop hf hnn hn2 hst =>
    subst hin
    rcases hq with ⟨q1, _⟩ | ⟨_, q2, _⟩ | ⟨_, _, rfl, K0, hwr, rfl⟩
    ·exact absurd h1 q1
    ·rw [hfb] at q2; cases q2
    ·have hsm := hwr.same
     obtain ⟨ha, hinv⟩ := h.eqv.wrote (u := u) (v := v) h.at1 hop hf hnn hwr
     have hc := h.eqv.count hfb
     have e1 : (counted K0).on = (counted K).on ∧ (counted K0).room = (counted K).room ∧ (counted K0).armed = (counted K).armed ∧ (counted K0).left = (counted K).left ∧ (counted K0).keep = (counted K).keep := by
      rw [hsm]; unfold counted; split <;> exact ⟨rfl, rfl, rfl, rfl, rfl⟩
     have e2 : (C.wrote k f (K.turn + 1) n data u v).off = D.count.off ∧ (C.wrote k f (K.turn + 1) n data u v).room = D.count.room ∧ (C.wrote k f (K.turn + 1) n data u v).armed = D.count.armed ∧ (C.wrote k f (K.turn + 1) n data u v).n = D.count.n := by
      rcases hop with ⟨_, _, rfl⟩ | ⟨_, _, _, lv, rfl, _⟩ <;> exact ⟨rfl, rfl, rfl, rfl⟩
     have et : (counted K0).turn = K.turn + 1 := by rw [count_turn, hsm]
     refine ⟨h2, _, hst, hc.step (K1 := counted K0) (by rw [counted_files]; exact ha) (by rw [et]; exact hinv) e1 e2, ?_, by rw [et]; exact Nat.le_refl _⟩
     rcases hop with ⟨_, _, rfl⟩ | ⟨_, _, _, lv, rfl, _⟩ <;> exact count_kv D
   | falls h1 hfb h2 n k f C u v hin hop hf hnn hn2 wm hst zz hc =>
    subst hin
    rcases hq with ⟨q1, _⟩ | ⟨_, _, rfl, w0, K0, n0, hK0, hwr, hcr⟩ | ⟨_, q2, _⟩
    ·exact absurd h1 q1
    ·have hsm := hwr.same
     obtain ⟨ha, hinv⟩ := h.eqv.wrote (u := u) (v := v) h.at1 hop hf hnn hwr
     have hcnt := count_falls hfb
     have e1 : K0.on = K.on ∧ K0.room = K.room ∧ K0.armed = K.armed ∧ K0.left = K.left ∧ K0.keep = K.keep := by
      rw [hsm]; exact ⟨rfl, rfl, rfl, rfl, rfl⟩
     have e2 : (C.wrote k f (K.turn + 1) n data u v).off = D.off ∧ (C.wrote k f (K.turn + 1) n data u v).room = D.room ∧ (C.wrote k f (K.turn + 1) n data u v).armed = D.armed ∧ (C.wrote k f (K.turn + 1) n data u v).n = D.n := by
      rcases hop with ⟨_, _, rfl⟩ | ⟨_, _, _, lv, rfl, _⟩ <;>
       (show D.count.off = D.off ∧ D.count.room = D.room ∧ D.count.armed = D.armed ∧ D.count.n = D.n; rw [hcnt]; exact ⟨rfl, rfl, rfl, rfl⟩)
     have et : K0.turn = K.turn + 1 := by rw [hsm]
     have hev := h.eqv.step (K1 := K0) ha (by rw [et]; exact hinv) e1 e2
     obtain ⟨E, hs2, hcm⟩ := hc.kv
     refine ⟨h2, E, hst.trans hs2, (hev.crash hK0 hcr hcm).2, ?_, by rw [hcr.eq]; show K0.turn ≤ _; rw [et]; exact Nat.le_refl _⟩
     rw [hcm.kv]
     rcases hop with ⟨_, _, rfl⟩ | ⟨_, _, _, lv, rfl, _⟩ <;> exact count_kv D
    ·rw [hfb] at q2; cases q2
end
end Go.Proofs.YtbkngnjkaledlaaGreat.P4
namespace Go.Proofs.YtbkngnjkaledlaaGreat.P3
open Go Go.RowKit Go.Lib Go.Maps Go.ChangeMaps Go.MapKept
def IntsK (w : World) (v : Value) (l : List Int) : Prop := IntsIn w v l ∧ (v = .slice none 0 0 ∨ ∃ a n c, v = .slice (some a) n c)
section
variable {H : Type} {enc : TypeId × Value → H} {w : World} {base : Nat} {sp : Nat → Bool} {held : Bool}
theorem ints_openK {n : Nat} {v : Value} {x : DataW H × List MemPlace} (h : DataW.trod enc Tryz.prog w base sp held n 29 [v] = some x) : ∃ l, IntsK w v l := by
 obtain ⟨l, hl⟩ := ints_open h
 refine ⟨l, hl, ?_⟩
 rcases Go.ChangeShapes.open_ints Tryz.underlying29 Tryz.underlying3 cellsInt h with ⟨hv, _⟩ | ⟨a, len, cap, zs, hv, _⟩
 ·simp only [List.cons.injEq, and_true] at hv
  exact .inl hv
 ·simp only [List.cons.injEq, and_true] at hv
  exact .inr ⟨a, len, cap, hv⟩
end
end Go.Proofs.YtbkngnjkaledlaaGreat.P3
namespace Go.Proofs.YtbkngnjkaledlaaGreat.P4
open Go Go.RowKit Go.Lib Go.Maps Go.ChangeMaps Go.MapKept P3
structure OpV where
 kind : Int
 S : ByteArray
 T : ByteArray
 A : Int
 B : Int
 own : Bool
 a : Option Addr
 c : Nat
 L : List Int
abbrev OpV.cells (o : OpV) : Array Value := #[.int .i64 o.kind, .string o.S, .string o.T, .int .i64 o.A, .int .i64 o.B, .bool o.own, .slice o.a o.L.length o.c]
end Go.Proofs.YtbkngnjkaledlaaGreat.P4
