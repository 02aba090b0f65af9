/-
  Texts of the proof of SaidPlay8b.
-/
import Derived.Test.YtbkngnjkaledlaaGreatMp23
namespace Go.Proofs.YtbkngnjkaledlaaGreat.P4
open Go Go.RowKit Go.Lib Go.Maps Go.ChangeMaps Go.MapKept P3
section
variable {w : World} {d : Nat} {K : Dk} {D : RM} {ks : List Int}
theorem sizeR_eq {D : RM} {s : ByteArray} (h : errR D s = 0) : sizeR D s = sizeM D s := by unfold sizeR sizeM; rw [if_pos h]
theorem Eqv.sizeF (h : Eqv K D ks) (hK : DiskAt w d K) (s : ByteArray) : P4.sizeF K.on s.size (getF K.files s.data.toList) = sizeR D s := by
 have he := h.errF hK s
 by_cases h0 : errR D s = 0
 ·rw [sizeR_eq h0, ← h.size hK s]
  rw [h0] at he
  obtain ⟨e1, F, e2⟩ := errF_zero he
  unfold P4.sizeF sizeN
  rw [if_pos e1, e2]
 ·unfold sizeR
  rw [if_neg h0]
  unfold P4.sizeF
  split
  ·rename_i e1
   cases hg : getF K.files s.data.toList with
   | none => rfl
   | some F =>
    rw [hg] at he
    unfold P4.errF at he
    rw [if_pos e1] at he
    exact absurd he.symm h0
  ·rfl
theorem Eqv.now (h : Eqv K D ks) (hK : DiskAt w d K) {s : ByteArray} {i : Nat} {f : MF} (ha : atN D.fs s = some i) (hf : D.fs[i]? = some f) (j : Nat) : nowOf (getF K.files s.data.toList) j = f.now.getD j ⟨#[]⟩ := by
 show nowOf (getF K.files (nmM s)) j = _
 rw [(h.da hK).now (nmM s) j]
 show nowA (getA (absW D.ws D.fs) (nmM s)) j = _
 rw [get_some ha hf]
 rfl
theorem Eqv.read (h : Eqv K D ks) (hK : DiskAt w d K) (s : ByteArray) (z : Int) : (readT K s z, readE K s z) = readR D s z := by
 have he := h.errF hK s
 have hs := h.size hK s
 by_cases h0 : errR D s = 0
 ·obtain ⟨_, _, i, f, hat, hf, _⟩ := errR_zero h0
  have hsz := sizeM_some hat hf
  have hR : readR D s z = if 0 ≤ z ∧ z < f.now.length then (f.now.getD z.toNat ⟨#[]⟩, 0) else (⟨#[]⟩, 15) := by
   unfold readR
   rw [if_pos h0, hat]
   simp only [Option.bind_some, hf]
  have hE : readE K s z = if z < 0 ∨ (f.now.length : Int) ≤ z then 15 else 0 := by
   unfold readE
   rw [he, if_neg (by simp [h0]), hs, hsz]
  rw [hR]
  by_cases hz : 0 ≤ z ∧ z < f.now.length
  ·rw [if_pos hz]
   have e1 : readE K s z = 0 := by rw [hE, if_neg (by omega)]
   unfold readT
   rw [e1, if_neg (by decide), h.now hK hat hf]
  ·rw [if_neg hz]
   have e1 : readE K s z = 15 := by rw [hE, if_pos (by omega)]
   unfold readT
   rw [e1, if_pos (by decide)]
 ·rw [readR_err h0]
  have e1 : readE K s z = errR D s := by unfold readE; rw [he, if_pos h0]
  unfold readT
  rw [e1, if_pos h0]
theorem Eqv.cutE (h : Eqv K D ks) (hK : DiskAt w d K) (s : ByteArray) (z : Int) : P4.cutE K s z = cutErr D s z := by
 unfold P4.cutE cutErr
 rw [h.errF hK s, h.size hK s]
 by_cases h0 : errR D s = 0
 ·have hh : ¬ errR D s ≠ 0 := fun q => q h0
  rw [if_neg hh, if_neg hh, sizeR_eq h0]
 ·rw [if_pos h0, if_pos h0]
theorem Eqv.renE (h : Eqv K D ks) (hK : DiskAt w d K) (s t : ByteArray) : P4.renE K s t = errN D s t := by
 unfold P4.renE errn2 errN
 rw [h.errF hK s, h.errn s, h.errn t]
 by_cases ho : D.off = true
 ·simp [ho]
 ·simp only [if_neg ho]
  by_cases hs : nameOk s = false
  ·simp [hs]
  ·by_cases ht : nameOk t = false
   ·simp [hs, ht]
   ·have e : errR D s = if atN D.fs s = none then 8 else 0 := by unfold errR; rw [if_neg ho, if_neg hs]
    simp [hs, ht, e]
theorem sum_at (L : Files) : sumOf (fun F => F.secs.length) L = ((absL L).map fun p => p.2.now.length).sum := by
 unfold sumOf absL absP
 rw [List.map_map]
 congr 1
 apply List.map_congr_left
 intro p _
 simp [Fl.abs]
theorem sum_abs (D : RM) : ((absM D).map fun p => p.2.now.length).sum = usedM D.fs := by
 unfold usedM absM absW
 rw [List.map_map]
 rfl
theorem Eqv.used (h : Eqv K D ks) : usedOf K.files = usedM D.fs := by
 unfold usedOf
 rw [sum_at, ← sum_abs]
 exact (h.abs.map _).sum_nat
theorem Eqv.full (h : Eqv K D ks) : fullOf K = (decide (0 < D.room) && decide (D.room ≤ (usedM D.fs : Int))) := by
 unfold fullOf
 rw [h.room, h.used]
theorem Eqv.writeE (h : Eqv K D ks) (hK : DiskAt w d K) (s : ByteArray) (i : Int) (z : Nat) : P4.writeE K s i z = errW D s i z := by
 unfold P4.writeE errW
 rw [h.errn s, h.size hK s, h.full, h.len]
 by_cases ho : D.off = true
 ·simp [ho]
 ·simp only [if_neg ho]
  by_cases hn : nameOk s = false
  ·simp [hn]
  ·by_cases hz : z = 256
   ·by_cases hi : i < 0 ∨ (sizeM D s : Int) < i ∨ 4000 < i
    ·simp [hn, hz, hi]
    ·obtain ⟨q, rfl⟩ : ∃ q : Nat, i = q := ⟨i.toNat, by omega⟩
     have e1 : ((q : Int) = (sizeM D s : Int)) ↔ q = sizeM D s := by omega
     have e2 : getF K.files s.data.toList = none ↔ atN D.fs s = none := by
      constructor
      ·intro hg
       cases ha : atN D.fs s with
       | none => rfl
       | some i =>
        obtain ⟨f, hf, _⟩ := atN_some ha
        obtain ⟨F, h1, _⟩ := h.getSome hK ha hf
        rw [h1] at hg
        cases hg
      ·exact fun ha => h.getNone hK ha
     have e3 : fullM D s (q : Int).toNat = true ↔ ((q = sizeM D s ∧ (decide (0 < D.room) && decide (D.room ≤ (usedM D.fs : Int))) = true) ∨ (atN D.fs s = none ∧ 60 ≤ D.fs.length)) := by
      show fullM D s q = true ↔ _
      unfold fullM
      cases atN D.fs s <;> simp [and_assoc]
     simp only [if_neg hi, e1, e2, e3, hn, hz]
     by_cases hA : q = sizeM D s ∧ (decide (0 < D.room) && decide (D.room ≤ (usedM D.fs : Int))) = true
     ·simp [hA]
     ·by_cases hB : atN D.fs s = none ∧ 60 ≤ D.fs.length
      ·rw [if_neg (by simp), if_neg (by simp), if_neg hA, if_pos hB, if_neg (by simp), if_pos (.inr hB)]
      ·rw [if_neg (by simp), if_neg (by simp), if_neg hA, if_neg hB, if_neg (by simp), if_neg (fun q => q.elim hA hB)]
   ·simp [hn, hz]
end
theorem parts_perm {α : Type} (key : α → Nat) : ∀ (ks : List Nat) (l : List α), ks.Nodup → (∀ x ∈ l, key x ∈ ks) → (ks.flatMap fun k => l.filter fun x => decide (key x = k)).Perm l
 | [], l, _, h => by
  obtain rfl : l = [] := List.eq_nil_iff_forall_not_mem.2 fun x hx => by simpa using h x hx
  exact List.Perm.refl _
 | k :: ks, l, hn, h => by
  rw [List.flatMap_cons]
  have hk := List.nodup_cons.1 hn
  have e : (ks.flatMap fun k' => l.filter fun x => decide (key x = k')) = ks.flatMap fun k' => (l.filter fun x => !decide (key x = k)).filter fun x => decide (key x = k') := by
   rw [List.flatMap_def, List.flatMap_def]
   congr 1
   apply List.map_congr_left
   intro k' hk'
   rw [List.filter_filter]
   apply List.filter_congr
   intro x _
   by_cases e : key x = k'
   ·have : key x ≠ k := fun e2 => hk.1 (by rw [← e2, e]; exact hk')
    simp [e, this]
    exact fun e3 => this (by rw [e, e3])
   ·simp [e]
  have ih := parts_perm key ks (l.filter fun x => !decide (key x = k)) hk.2 (fun x hx => by
   obtain ⟨h1, h2⟩ := List.mem_filter.1 hx
   rcases List.mem_cons.1 (h x h1) with q | q
   ·simp [q] at h2
   ·exact q)
  rw [e]
  exact (ih.append_left _).trans (List.filter_append_perm _ _)
theorem ws_perm {D : RM} {t : Nat} (h : Inv D t) : (wsA (absM D)).Perm (D.ws.map fun x => (x.turn, x.pos, x.data)) := by
 have e : wsA (absM D) = (((D.fs.map (·.id)).flatMap fun k => D.ws.filter fun x => decide (x.file = k))).map fun x => (x.turn, x.pos, x.data) := by
  unfold wsA absM absW
  rw [List.flatMap_map, List.flatMap_map, List.map_flatMap]
  rfl
 rw [e]
 refine (parts_perm (fun x : RW => x.file) _ _ h.ids fun x hx => ?_).map _
 obtain ⟨f, hf, e⟩ := h.own x hx
 exact List.mem_map.2 ⟨f, hf, e⟩
theorem Eqv.dirty {K : Dk} {D : RM} {ks : List Int} (h : Eqv K D ks) : (allW K.files).length = D.ws.length := by
 have h1 := (wsA_perm h.abs).length_eq
 rw [wsA_abs, List.length_map, (ws_perm h.inv).length_eq, List.length_map] at h1
 exact h1
end Go.Proofs.YtbkngnjkaledlaaGreat.P4
namespace Go.Proofs.YtbkngnjkaledlaaGreat.P4
open Go Go.RowKit Go.Lib Go.Maps Go.ChangeMaps Go.MapKept P3
theorem rank_rw {ws : List RW} (hs : ws.Pairwise (fun x y => x.turn < y.turn)) {i : Nat} {x : RW} (hx : ws[i]? = some x) : (ws.filter fun y => decide (y.turn < x.turn)).length = i := by
 obtain ⟨hi, hxe⟩ := List.getElem?_eq_some_iff.1 hx
 have e : ws = ws.take i ++ x :: ws.drop (i + 1) := by
  rw [← hxe, List.getElem_cons_drop, List.take_append_drop]
 have hs2 := hs
 rw [e, List.pairwise_append, List.pairwise_cons] at hs2
 conv => lhs; rw [e]
 rw [List.filter_append, List.filter_cons_of_neg (by simp), List.filter_eq_self.2 (fun y hy => by simpa using hs2.2.2 y hy x (by simp)), List.filter_eq_nil_iff.2 (fun y hy => by have := hs2.2.1.1 y hy; simp; omega)]
 rw [List.append_nil, List.length_take]
 omega
section
variable {w w' : World} {d : Nat} {K K' : Dk} {D E : RM} {ks : List Int}
theorem kept_at {t : Nat} (h : Inv D t) (ks : List Int) {i : Nat} {x : RW} (hx : D.ws[i]? = some x) : keptA (absM D) ks x.turn = kapM ks i := by
 unfold keptA rankA kapM
 rw [((ws_perm h).filter _).length_eq, List.filter_map, List.length_map]
 have e : ((fun y : Nat × Nat × ByteArray => decide (y.1 < x.turn)) ∘ fun x : RW => (x.turn, x.pos, x.data)) = fun y => decide (y.turn < x.turn) := rfl
 rw [e, rank_rw h.turns hx]
theorem zip_get {α : Type} {l : List α} {p : α × Nat} (h : p ∈ l.zipIdx) : l[p.2]? = some p.1 := List.mem_zipIdx_iff_getElem?.1 h
theorem trips_eq {t : Nat} (h : Inv D t) (ks : List Int) (id : Nat) : (wrM D.ws id).map (tripA (keptA (absM D) ks)) = tripsM (kapM ks) D.ws id := by
 unfold wrM tripsM
 rw [List.map_map]
 have e1 : D.ws = D.ws.zipIdx.map (·.1) := by rw [List.zipIdx_map_fst]
 conv => lhs; rw [e1]
 rw [List.filter_map, List.map_map]
 apply List.map_congr_left
 intro p hp
 have hp2 := zip_get (List.mem_filter.1 hp).1
 show tripA (keptA (absM D) ks) (p.1.turn, p.1.pos, p.1.data) = _
 unfold tripA
 rw [kept_at h ks hp2]
theorem lost_eq {t : Nat} (h : Inv D t) (ks : List Int) : lostA (keptA (absM D) ks) (absM D) = D.lost (kapM ks) := by
 unfold lostA RM.lost
 rw [((ws_perm h).filter _).length_eq, List.filter_map, List.length_map, ← List.countP_eq_length_filter]
 have e1 : D.ws = D.ws.zipIdx.map (·.1) := by rw [List.zipIdx_map_fst]
 have e2 : List.range D.ws.length = D.ws.zipIdx.map (·.2) := by rw [List.zipIdx_map_snd, List.range_eq_range']
 conv => lhs; rw [e1]
 rw [e2, List.countP_map, List.countP_map]
 apply List.countP_congr
 intro p hp
 have hp2 := zip_get hp
 show decide (keptA (absM D) ks p.1.turn < 256) = true ↔ decide (kapM ks p.2 < 256) = true
 rw [kept_at h ks hp2]
theorem keep_pos : ∀ (l : List (Nat × Nat × ByteArray)) (S : List ByteArray), 0 < (keepAll S l).length ↔ 0 < S.length ∨ (l.any fun x => decide (x.1 ≠ 0)) = true
 | [], S => by simp [keepAll]
 | x :: l, S => by
  have ih := keep_pos l (keepOne S x)
  have e : keepAll S (x :: l) = keepAll (keepOne S x) l := rfl
  rw [e, ih]
  by_cases hx : x.1 = 0
  ·have e2 : keepOne S x = S := by unfold keepOne; rw [if_pos hx]
   rw [e2, List.any_cons]
   simp [hx]
  ·have e2 : 0 < (keepOne S x).length := by unfold keepOne; rw [if_neg hx, setPad_length]; omega
   rw [List.any_cons]
   simp [hx, e2]
theorem Eqv.made (h : Eqv K D ks) (hK : DiskAt w d K) {f : MF} (hf : f ∈ D.fs) (hm : f.made = false) : f.safe = [] := by
 have h1 : (nmM f.name, afM D.ws f) ∈ absM D := List.mem_map.2 ⟨f, hf, rfl⟩
 obtain ⟨p, hp, e⟩ := List.mem_map.1 (h.abs.mem_iff.2 h1)
 have ok := hK.files.ok p hp
 have e2 : p.2.abs = afM D.ws f := congrArg (·.2) e
 have e3 : p.2.stays = f.made := congrArg AF.made e2
 have e4 : (p.2.secs.take p.2.ns).map (·.safe) = f.safe := congrArg AF.safe e2
 rw [ok.made (by rw [e3]; exact hm)] at e4
 simpa using e4.symm
theorem absM_empty {E : RM} (h : E.ws = []) : absM E = (E.fs.map MF.core).map fun c => (nmM c.1, (⟨c.2.2.1, c.2.2.2.1, c.2.2.2.2, []⟩ : AF)) := by
 show absW E.ws E.fs = _
 rw [h]
 unfold absW
 rw [List.map_map]
 rfl
theorem Eqv.crash (h : Eqv K D ks) (hK : DiskAt w d K) {xs : List Int} {z : Int} (hc : Crashed w d K xs z K' w') (hE : CrM D E (kapM xs)) : z = (D.lost (kapM xs) : Nat) ∧ Eqv K' E ks := by
 obtain ⟨h1, h2⟩ := hc.absA (h.da hK)
 have e1 : absM E = (absM D).filterMap (crA (keptA (absM D) xs)) := by
  rw [absM_empty hE.ws, hE.files, List.map_map]
  show _ = ((D.fs.map fun f => (nmM f.name, afM D.ws f))).filterMap _
  rw [List.filterMap_map]
  have key : ∀ (l : List MF), (∀ f ∈ l, f ∈ D.fs) → (l.filter fun f => f.stays (kapM xs) D.ws).map ((fun c : ByteArray × Nat × List ByteArray × List ByteArray × Bool => (nmM c.1, (⟨c.2.2.1, c.2.2.2.1, c.2.2.2.2, []⟩ : AF))) ∘ MF.left (kapM xs) D.ws) = l.filterMap (crA (keptA (absM D) xs) ∘ fun f => (nmM f.name, afM D.ws f)) := by
   intro l hl
   induction l with
   | nil => rfl
   | cons f l ih =>
    have ih' := ih fun g hg => hl g (List.mem_cons_of_mem _ hg)
    have hf := hl f (by simp)
    have ht := trips_eq h.inv xs f.id
    have hst : (f.made || decide (0 < (keepAll f.safe ((wrM D.ws f.id).map (tripA (keptA (absM D) xs)))).length)) = f.stays (kapM xs) D.ws := by
     rw [ht]
     unfold MF.stays
     cases hm : f.made with
     | true => rfl
     | false =>
      rw [Bool.false_or, Bool.false_or, h.made hK hf hm]
      have := keep_pos (tripsM (kapM xs) D.ws f.id) []
      cases hb : (tripsM (kapM xs) D.ws f.id).any fun x => decide (x.1 ≠ 0) with
      | true => exact decide_eq_true (this.2 (.inr hb))
      | false => exact decide_eq_false (fun q => by rcases this.1 q with q | q; exact absurd q (by simp); rw [hb] at q; cases q)
    have hcr : crA (keptA (absM D) xs) (nmM f.name, afM D.ws f) = if f.stays (kapM xs) D.ws = true then some (nmM f.name, (⟨keepAll f.safe (tripsM (kapM xs) D.ws f.id), keepAll f.safe (tripsM (kapM xs) D.ws f.id), true, []⟩ : AF)) else none := by
     unfold crA
     show (if (f.made || decide (0 < (keepAll f.safe ((wrM D.ws f.id).map (tripA (keptA (absM D) xs)))).length)) = true then some (nmM f.name, (afM D.ws f).crash ((wrM D.ws f.id).map (tripA (keptA (absM D) xs)))) else none) = _
     rw [hst, ht]
     rfl
    rw [List.filterMap_cons]
    have hcr2 : (crA (keptA (absM D) xs) ∘ fun f => (nmM f.name, afM D.ws f)) f = if f.stays (kapM xs) D.ws = true then some (nmM f.name, (⟨keepAll f.safe (tripsM (kapM xs) D.ws f.id), keepAll f.safe (tripsM (kapM xs) D.ws f.id), true, []⟩ : AF)) else none := hcr
    rw [hcr2]
    cases hs : f.stays (kapM xs) D.ws with
    | true =>
     rw [List.filter_cons_of_pos (p := fun f => MF.stays f (kapM xs) D.ws) hs, List.map_cons, ih', if_pos rfl]
     rfl
    | false =>
     rw [List.filter_cons_of_neg (p := fun f => MF.stays f (kapM xs) D.ws) (by simp [hs]), ih', if_neg (by simp)]
  exact key D.fs fun f hf => hf
 have he := hc.eq
 have hcore : E.fs.map (·.id) = (D.fs.filter fun f => f.stays (kapM xs) D.ws).map (·.id) := by
  have := congrArg (List.map fun c : ByteArray × Nat × List ByteArray × List ByteArray × Bool => c.2.1) hE.files
  rw [List.map_map, List.map_map] at this
  exact this
 refine ⟨by rw [h1, lost_eq h.inv], ⟨by rw [e1]; exact h2.abs, ?_, ?_, ?_, ?_, ?_, ?_, ?_, ⟨?_, ?_, ?_, ?_, ?_, ?_, ?_⟩⟩⟩
 ·rw [hE.off, he]; rfl
 ·rw [hE.room, he]; exact h.room
 ·rw [hE.armed, he]
 ·intro ha; rw [hE.armed] at ha; cases ha
 ·intro _; rw [he]; exact ⟨rfl, rfl⟩
 ·rw [hE.n]; exact h.nle
 ·rw [he]; exact Nat.zero_le _
 ·rw [hE.ws]; exact List.Pairwise.nil
 ·rw [hE.ws]; intro x hx; simp at hx
 ·rw [hE.ws]; intro x hx; simp at hx
 ·rw [hcore]
  exact (h.inv.ids.sublist (List.Sublist.map _ List.filter_sublist))
 ·intro f hf
  have h9 : f.id ∈ E.fs.map (·.id) := List.mem_map_of_mem hf
  rw [hcore] at h9
  obtain ⟨g, hg, e⟩ := List.mem_map.1 h9
  rw [← e, hE.ids]
  exact h.inv.idm g (List.mem_filter.1 hg).1
 ·rw [hE.ids, he]; exact h.inv.idt
 ·intro f hf
  rw [hE.ws]
  intro a x r e
  have e' : ([] : List (Nat × Nat × ByteArray)) = a ++ x :: r := e
  simp at e'
end
end Go.Proofs.YtbkngnjkaledlaaGreat.P4
namespace Go.Proofs.YtbkngnjkaledlaaGreat.P4
open Go Go.RowKit Go.Lib Go.Maps Go.ChangeMaps Go.MapKept P3
theorem last_nil (now : List ByteArray) : LastOk [] now := fun a x r e => by simp at e
theorem last_snoc {l : List (Nat × Nat × ByteArray)} {now : List ByteArray} (h : LastOk l now) (t i : Nat) (d : ByteArray) (hi : i ≤ now.length) : LastOk (l ++ [(t, i, d)]) (putAt now i d) := by
 intro a x r e hr
 have key : ∀ p : Nat, p ≠ i → (putAt now i d)[p]? = now[p]? ∨ now[p]? = none := fun p hp => by
  unfold putAt
  split
  ·by_cases hl : p < now.length
   ·exact .inl (List.getElem?_append_left hl)
   ·exact .inr (List.getElem?_eq_none (by omega))
  ·exact .inl (by rw [List.getElem?_set_ne (fun e => hp e.symm)])
 rcases List.eq_nil_or_concat r with rfl | ⟨r', z, rfl⟩
 ·obtain ⟨_, e2⟩ := List.append_inj' e rfl
  obtain rfl : (t, i, d) = x := by simpa using e2
  show (putAt now i d)[i]? = some d
  unfold putAt
  split
  ·rename_i hi2; subst hi2; simp
  ·rw [List.getElem?_set_self (by omega)]
 ·rw [List.concat_eq_append] at e hr
  rw [← List.cons_append, ← List.append_assoc] at e
  obtain ⟨e1, e2⟩ := List.append_inj' e rfl
  obtain rfl : (t, i, d) = z := by simpa using e2
  have hne : i ≠ x.2.1 := hr (t, i, d) (by simp)
  have h9 := h a x r' e1 (fun y hy => hr y (by simp [hy]))
  rcases key x.2.1 (fun e => hne e.symm) with q | q
  ·rw [q]; exact h9
  ·rw [h9] at q; cases q
theorem last_cut {l : List (Nat × Nat × ByteArray)} {now : List ByteArray} (h : LastOk l now) (n : Nat) : LastOk (l.filter fun x => decide (x.2.1 < n)) (now.take n) := by
 intro a x r e hr
 obtain ⟨l1, l2, e0, e1, e2⟩ := List.filter_eq_append_iff.1 e
 obtain ⟨m1, m2, e3, e4, e5, e6⟩ := List.filter_eq_cons_iff.1 e2
 have hxn : x.2.1 < n := by simpa using e5
 have e7 : l = (l1 ++ m1) ++ x :: m2 := by rw [e0, e3]; simp
 have h9 := h _ x m2 e7 (fun y hy hyx => by
  have : y ∈ r := by rw [← e6]; exact List.mem_filter.2 ⟨hy, by simp; omega⟩
  exact hr y this hyx)
 rw [List.getElem?_take_of_lt hxn]
 exact h9
theorem wr_keep (ws : List RW) (id fr id' : Nat) : wrM (ws.filter (keepW id fr)) id' = if id' = id then (wrM ws id).filter (fun x => decide (x.2.1 < fr)) else wrM ws id' := by
 unfold wrM
 rw [List.filter_filter]
 by_cases h : id' = id
 ·subst h
  rw [if_pos rfl, List.filter_map, List.filter_filter]
  congr 1
  apply List.filter_congr
  intro x _
  unfold keepW
  by_cases hx : x.file = id'
  ·simp [hx]
  ·simp [hx]
 ·rw [if_neg h]
  congr 1
  apply List.filter_congr
  intro x _
  unfold keepW
  by_cases hx : x.file = id'
  ·have : x.file ≠ id := fun e => h (hx.symm.trans e)
   simp [hx, h]
  ·simp [hx]
theorem wr_snoc (ws : List RW) (t id i : Nat) (d : ByteArray) (id' : Nat) : wrM (ws ++ [⟨t, id, i, d⟩]) id' = if id' = id then wrM ws id ++ [(t, i, d)] else wrM ws id' := by
 unfold wrM
 rw [List.filter_append, List.map_append]
 by_cases h : id' = id
 ·subst h
  rw [if_pos rfl]
  simp
 ·have : id ≠ id' := fun e => h e.symm
  rw [if_neg h]
  simp [this]
theorem absW_set {ws ws' : List RW} {fs : List MF} {i : Nat} {f f' : MF} (hf : fs[i]? = some f) (hids : (fs.map (·.id)).Nodup) (ho : ∀ id, id ≠ f.id → wrM ws' id = wrM ws id) : absW ws' (fs.set i f') = (absW ws fs).set i (nmM f'.name, afM ws' f') := by
 apply List.ext_getElem?
 intro j
 unfold absW
 rw [List.getElem?_map, List.getElem?_set, List.getElem?_set, List.getElem?_map, List.length_map]
 by_cases e : i = j
 ·subst e
  have hl := (List.getElem?_eq_some_iff.1 hf).1
  rw [if_pos rfl, if_pos rfl, if_pos hl, if_pos hl]
  rfl
 ·rw [if_neg e, if_neg e]
  cases hg : fs[j]? with
  | none => rfl
  | some g =>
   have hne : g.id ≠ f.id := fun e2 => e (by
    have h1 : (fs.map (·.id))[i]? = some f.id := by rw [List.getElem?_map, hf]; rfl
    have h2 : (fs.map (·.id))[j]? = some f.id := by rw [List.getElem?_map, hg, ← e2]; rfl
    exact (List.getElem?_inj (by rw [List.length_map]; exact (List.getElem?_eq_some_iff.1 hf).1) hids).1 (h1.trans h2.symm))
   show some (nmM g.name, afM ws' g) = some (nmM g.name, afM ws g)
   unfold afM
   rw [ho g.id hne]
theorem absW_erase {ws ws' : List RW} {fs : List MF} {i : Nat} {f : MF} (hf : fs[i]? = some f) (hids : (fs.map (·.id)).Nodup) (ho : ∀ id, id ≠ f.id → wrM ws' id = wrM ws id) : absW ws' (fs.eraseIdx i) = (absW ws fs).eraseIdx i := by
 apply List.ext_getElem?
 intro j
 unfold absW
 rw [List.getElem?_map, List.getElem?_eraseIdx, List.getElem?_eraseIdx, List.getElem?_map, List.getElem?_map]
 have key : ∀ m, m ≠ i → (fs[m]?).map (fun f => (nmM f.name, afM ws' f)) = (fs[m]?).map (fun f => (nmM f.name, afM ws f)) := fun m hm => by
  cases hg : fs[m]? with
  | none => rfl
  | some g =>
   have hne : g.id ≠ f.id := fun e2 => hm (by
    have h1 : (fs.map (·.id))[i]? = some f.id := by rw [List.getElem?_map, hf]; rfl
    have h2 : (fs.map (·.id))[m]? = some f.id := by rw [List.getElem?_map, hg, ← e2]; rfl
    exact ((List.getElem?_inj (by rw [List.length_map]; exact (List.getElem?_eq_some_iff.1 hf).1) hids).1 (h1.trans h2.symm)).symm)
   show some (nmM g.name, afM ws' g) = some (nmM g.name, afM ws g)
   unfold afM
   rw [ho g.id hne]
 by_cases e : j < i
 ·rw [if_pos e, if_pos e]; exact key j (by omega)
 ·rw [if_neg e, if_neg e]; exact key (j + 1) (by omega)
section
variable {w w' : World} {d : Nat} {K K1 : Dk} {D D1 : RM} {ks : List Int}
theorem Eqv.step (h : Eqv K D ks) (ha : (absL K1.files).Perm (absM D1)) (hi : Inv D1 K1.turn) (e1 : K1.on = K.on ∧ K1.room = K.room ∧ K1.armed = K.armed ∧ K1.left = K.left ∧ K1.keep = K.keep) (e2 : D1.off = D.off ∧ D1.room = D.room ∧ D1.armed = D.armed ∧ D1.n = D.n) : Eqv K1 D1 ks := by
 obtain ⟨a1, a2, a3, a4, a5⟩ := e1
 obtain ⟨b1, b2, b3, b4⟩ := e2
 exact ⟨ha, by rw [b1, a1]; exact h.on, by rw [a2, b2]; exact h.room, by rw [a3, b3]; exact h.armed, by rw [a4, a5, b3, b4]; exact h.left, by rw [a4, a5, b3]; exact h.calm, by rw [b4]; exact h.nle, by rw [a5]; exact h.few, hi⟩
theorem Eqv.falls (h : Eqv K D ks) : (D.fallsB = true → K.armed = true ∧ ¬ 0 < K.left ∧ K.keep = ks) ∧ (D.fallsB = false → K.armed = false ∨ 0 < K.left) := by
 unfold RM.fallsB
 cases ha : D.armed with
 | false => exact ⟨fun q => by simp at q, fun _ => .inl (by rw [h.armed]; exact ha)⟩
 | true =>
  obtain ⟨l1, l2, l3⟩ := h.left ha
  refine ⟨fun q => ⟨by rw [h.armed]; exact ha, ?_, l2⟩, fun q => .inr ?_⟩
  ·have : D.n = 0 := by simpa using q
   omega
  ·have : D.n ≠ 0 := by simpa using q
   omega
theorem Inv.count {t : Nat} (h : Inv D t) : Inv D.count t := by
 obtain ⟨q1, q2, q3, q4, q5⟩ := count_fs D
 obtain ⟨p1, p2, p3, p4⟩ := count_more D
 exact ⟨by rw [q2]; exact h.turns, by rw [q2]; exact h.tmax, by rw [q2, q1]; exact h.own, by rw [q1]; exact h.ids, by rw [q1, p1]; exact h.idm, by rw [p1]; exact h.idt, by rw [q1, q2]; exact h.redo⟩
theorem Eqv.count (h : Eqv K D ks) (hf : D.fallsB = false) : Eqv (counted K) D.count ks := by
 obtain ⟨q1, q2, q3, q4, q5⟩ := count_fs D
 obtain ⟨p1, p2, p3, p4⟩ := count_more D
 have ht : (counted K).turn = K.turn := by unfold counted; split <;> rfl
 have hon : (counted K).on = K.on := by unfold counted; split <;> rfl
 have hro : (counted K).room = K.room := by unfold counted; split <;> rfl
 have har : (counted K).armed = K.armed := by unfold counted; split <;> rfl
 have hke : (counted K).keep = K.keep := by unfold counted; split <;> rfl
 have hn : D.count.n = if D.armed = true then D.n - 1 else D.n := by
  unfold RM.count
  cases ha : D.armed with
  | false => simp
  | true =>
   have : D.n ≠ 0 := by
    unfold RM.fallsB at hf
    rw [ha] at hf
    simpa using hf
   simp [this]
 have hl : (counted K).left = if K.armed = true then K.left - 1 else K.left := by unfold counted; split <;> rfl
 refine ⟨by rw [counted_files]; show (absL K.files).Perm (absW D.count.ws D.count.fs); rw [q1, q2]; exact h.abs, by rw [q3, hon]; exact h.on, by rw [hro, p2]; exact h.room, by rw [har, p4]; exact h.armed, ?_, ?_, ?_, by rw [hke]; exact h.few, by rw [ht]; exact h.inv.count⟩
 ·intro ha
  rw [p4] at ha
  obtain ⟨l1, l2, l3⟩ := h.left ha
  have hnz : D.n ≠ 0 := by
   unfold RM.fallsB at hf
   rw [ha] at hf
   simpa using hf
  rw [hl, hn, if_pos (h.armed.trans ha), if_pos ha, l1]
  exact ⟨rfl, by rw [hke]; exact l2, by omega⟩
 ·intro ha
  rw [p4] at ha
  obtain ⟨l1, l2⟩ := h.calm ha
  rw [hl, if_neg (by rw [h.armed, ha]; decide), hke]
  exact ⟨l1, l2⟩
 ·rw [hn]
  have := h.nle
  split
  ·omega
  ·exact this
theorem mem_set_id {fs : List MF} {i : Nat} {f f' : MF} (hf : fs[i]? = some f) (hid : f'.id = f.id) : (fs.set i f').map (·.id) = fs.map (·.id) := by
 rw [List.map_set, hid]
 exact list_set_self (by rw [List.getElem?_map, hf]; rfl)
theorem Inv.set {t t' : Nat} {i : Nat} {f f' : MF} {ws' : List RW} {u v : Value} (h : Inv D t) (hf : D.fs[i]? = some f) (hid : f'.id = f.id) (htt : t ≤ t') (h1 : ws'.Pairwise (fun x y => x.turn < y.turn)) (h2 : ∀ x ∈ ws', x.turn ≤ t') (h3 : ∀ x ∈ ws', x ∈ D.ws ∨ x.file = f.id) (ho : ∀ id, id ≠ f.id → wrM ws' id = wrM D.ws id) (hr : LastOk (wrM ws' f.id) f'.now) :
  Inv { D with lv := u, fs := D.fs.set i f', wv := v, ws := ws' } t' := by
 have hmem : ∀ g ∈ D.fs.set i f', g = f' ∨ (g ∈ D.fs ∧ g.id ≠ f.id) := fun g hg => by
  obtain ⟨j, hj⟩ := List.getElem?_of_mem hg
  rw [List.getElem?_set] at hj
  by_cases e : i = j
  ·subst e
   rw [if_pos rfl, if_pos (List.getElem?_eq_some_iff.1 hf).1] at hj
   exact .inl (Option.some.inj hj).symm
  ·rw [if_neg e] at hj
   refine .inr ⟨List.mem_of_getElem? hj, fun e2 => e ?_⟩
   have h1 : (D.fs.map (·.id))[i]? = some f.id := by rw [List.getElem?_map, hf]; rfl
   have h2 : (D.fs.map (·.id))[j]? = some f.id := by rw [List.getElem?_map, hj, ← e2]; rfl
   exact (List.getElem?_inj (by rw [List.length_map]; exact (List.getElem?_eq_some_iff.1 hf).1) h.ids).1 (h1.trans h2.symm)
 have hids := mem_set_id hf hid
 refine ⟨h1, h2, fun x hx => ?_, by rw [hids]; exact h.ids, fun g hg => ?_, Nat.le_trans h.idt htt, fun g hg => ?_⟩
 ·have hx2 : x.file ∈ (D.fs.set i f').map (·.id) := by
   rw [hids]
   rcases h3 x hx with q | q
   ·obtain ⟨g, hg, e⟩ := h.own x q
    exact List.mem_map.2 ⟨g, hg, e⟩
   ·rw [q]; exact List.mem_map.2 ⟨f, List.mem_of_getElem? hf, rfl⟩
  obtain ⟨g, hg, e⟩ := List.mem_map.1 hx2
  exact ⟨g, hg, e⟩
 ·rcases hmem g hg with rfl | ⟨q, _⟩
  ·rw [hid]; exact h.idm f (List.mem_of_getElem? hf)
  ·exact h.idm g q
 ·rcases hmem g hg with rfl | ⟨q, q2⟩
  ·rw [hid]; exact hr
  ·show LastOk (wrM ws' g.id) g.now
   rw [ho g.id q2]
   exact h.redo g q
end
end Go.Proofs.YtbkngnjkaledlaaGreat.P4
namespace Go.Proofs.YtbkngnjkaledlaaGreat.P4
open Go Go.RowKit Go.Lib Go.Maps Go.ChangeMaps Go.MapKept P3
section
variable {w w' : World} {d : Nat} {K K1 : Dk} {D D1 : RM} {ks : List Int}
theorem set_perm {ws ws' : List RW} {fs : List MF} {i : Nat} {f f' : MF} (hn : ((absW ws fs).map (·.1)).Nodup) (hf : fs[i]? = some f) (hids : (fs.map (·.id)).Nodup) (ho : ∀ id, id ≠ f.id → wrM ws' id = wrM ws id) (hnm : f'.name = f.name) :
  (absW ws' (fs.set i f')).Perm ((nmM f.name, afM ws' f') :: restA (absW ws fs) (nmM f.name)) := by
 rw [absW_set hf hids ho, hnm]
 exact set_rest hn (absW_at hf)
theorem keep_mem {ws : List RW} {id fr : Nat} : ∀ x ∈ ws.filter (keepW id fr), x ∈ ws := fun _ hx => (List.mem_filter.1 hx).1
theorem keep_other {ws : List RW} {id fr : Nat} : ∀ id', id' ≠ id → wrM (ws.filter (keepW id fr)) id' = wrM ws id' := fun id' h => by rw [wr_keep, if_neg h]
theorem keep_mine {ws : List RW} {id fr : Nat} : wrM (ws.filter (keepW id fr)) id = (wrM ws id).filter (fun x => decide (x.2.1 < fr)) := by rw [wr_keep, if_pos rfl]
theorem Eqv.F_abs (h : Eqv K D ks) (hK : DiskAt w d K) {s : ByteArray} {i : Nat} {f : MF} {F : Fl} (hat : atN D.fs s = some i) (hi : D.fs[i]? = some f) (hF : getF K.files s.data.toList = some F) : F.abs = afM D.ws f := by
 obtain ⟨F', h1, h2⟩ := h.getSome hK hat hi
 rw [hF] at h1
 cases h1
 exact h2
theorem Eqv.sync (h : Eqv K D ks) (hK : DiskAt w d K) (hf0 : D.fallsB = false) {s : ByteArray} {i : Nat} {f : MF} {F : Fl} {u : Value} (hat : atN D.fs s = some i) (hi : D.fs[i]? = some f) (hF : getF K.files s.data.toList = some F) :
  Eqv { counted K with files := (s.data.toList, F.sync) :: restF K.files s.data.toList } (D.count.sync i f u) ks := by
 obtain ⟨q1, q2, q3, q4, q5⟩ := count_fs D
 have hnm := atN_name hat hi
 subst hnm
 have hc := h.count hf0
 have hci := hc.inv
 have hFa := h.F_abs hK hat hi hF
 have hi' : D.count.fs[i]? = some f := by rw [q1]; exact hi
 have hr : wrM (D.count.ws.filter (keepW f.id 0)) f.id = [] := by rw [keep_mine]; exact List.filter_eq_nil_iff.2 fun x _ => by simp
 refine hc.step (K1 := { counted K with files := (f.name.data.toList, F.sync) :: restF K.files f.name.data.toList }) ?_ ?_ ⟨rfl, rfl, rfl, rfl, rfl⟩ ⟨rfl, rfl, rfl, rfl⟩
 ·show (absL ((f.name.data.toList, F.sync) :: restF K.files f.name.data.toList)).Perm (absW (D.count.ws.filter (keepW f.id 0)) (D.count.fs.set i _))
  have e1 : absL ((f.name.data.toList, F.sync) :: restF K.files f.name.data.toList) = (nmM f.name, F.abs.sync) :: restA (absL K.files) (nmM f.name) := by
   show (f.name.data.toList, F.sync.abs) :: absL (restF K.files f.name.data.toList) = _
   rw [Fl.sync_abs, rest_abs]
   rfl
  rw [e1]
  refine ((restA_perm h.abs (nmM f.name)).cons _).trans ?_
  have h9 := set_perm (ws := D.count.ws) (ws' := D.count.ws.filter (keepW f.id 0)) (f' := { f with safe := f.now, sv := f.nv, made := true }) (by rw [q1, q2]; exact h.nodup hK) hi' hci.ids keep_other rfl
  refine List.Perm.trans ?_ h9.symm
  have e2 : F.abs.sync = afM (D.count.ws.filter (keepW f.id 0)) { f with safe := f.now, sv := f.nv, made := true } := by
   rw [hFa]
   show (⟨f.now, f.now, true, []⟩ : AF) = ⟨f.now, f.now, true, wrM _ f.id⟩
   rw [hr]
  rw [e2, q1, q2]
 ·exact hci.set hi' rfl (Nat.le_refl _) (hci.turns.filter _) (fun x hx => hci.tmax x (keep_mem x hx)) (fun x hx => .inl (keep_mem x hx)) keep_other (by rw [hr]; exact last_nil _)
theorem Eqv.cut (h : Eqv K D ks) (hK : DiskAt w d K) (hf0 : D.fallsB = false) {s : ByteArray} {i n : Nat} {f : MF} {F : Fl} {sl u v1 v2 : Value} (hat : atN D.fs s = some i) (hi : D.fs[i]? = some f) (hF : getF K.files s.data.toList = some F) :
  Eqv { counted K with files := (s.data.toList, F.cut sl n) :: restF K.files s.data.toList } { D.count with fs := D.fs.set i { f with now := f.now.take n, safe := f.safe.take n, nv := v1, sv := v2 }, wv := u, ws := D.ws.filter (keepW f.id n) } ks := by
 obtain ⟨q1, q2, q3, q4, q5⟩ := count_fs D
 have hnm := atN_name hat hi
 subst hnm
 have hc := h.count hf0
 have hci := hc.inv
 have hFa := h.F_abs hK hat hi hF
 have hi' : D.count.fs[i]? = some f := by rw [q1]; exact hi
 have hinv := hci.set (u := D.count.lv) (v := u) (f' := { f with now := f.now.take n, safe := f.safe.take n, nv := v1, sv := v2 }) (ws' := D.count.ws.filter (keepW f.id n)) hi' rfl (Nat.le_refl _) (hci.turns.filter _) (fun x hx => hci.tmax x (keep_mem x hx)) (fun x hx => .inl (keep_mem x hx)) keep_other (by rw [keep_mine]; exact last_cut (hci.redo f (List.mem_of_getElem? hi')) n)
 rw [q1, q2] at hinv
 refine hc.step (K1 := { counted K with files := (f.name.data.toList, F.cut sl n) :: restF K.files f.name.data.toList }) ?_ hinv ⟨rfl, rfl, rfl, rfl, rfl⟩ ⟨rfl, rfl, rfl, rfl⟩
 show (absL ((f.name.data.toList, F.cut sl n) :: restF K.files f.name.data.toList)).Perm (absW (D.ws.filter (keepW f.id n)) (D.fs.set i _))
 have e1 : absL ((f.name.data.toList, F.cut sl n) :: restF K.files f.name.data.toList) = (nmM f.name, F.abs.cut n) :: restA (absL K.files) (nmM f.name) := by
  show (f.name.data.toList, (F.cut sl n).abs) :: absL (restF K.files f.name.data.toList) = _
  rw [Fl.cut_abs, rest_abs]
  rfl
 rw [e1]
 refine ((restA_perm h.abs (nmM f.name)).cons _).trans ?_
 have h9 := set_perm (ws := D.ws) (ws' := D.ws.filter (keepW f.id n)) (f' := { f with now := f.now.take n, safe := f.safe.take n, nv := v1, sv := v2 }) (h.nodup hK) hi h.inv.ids keep_other rfl
 refine List.Perm.trans ?_ h9.symm
 have e2 : F.abs.cut n = afM (D.ws.filter (keepW f.id n)) { f with now := f.now.take n, safe := f.safe.take n, nv := v1, sv := v2 } := by
  rw [hFa]
  show (⟨f.now.take n, f.safe.take n, f.made, (wrM D.ws f.id).filter _⟩ : AF) = ⟨f.now.take n, f.safe.take n, f.made, wrM _ f.id⟩
  rw [keep_mine]
 rw [e2]
theorem Inv.rm {t : Nat} {i : Nat} {f : MF} {u v : Value} (h : Inv D t) (hf : D.fs[i]? = some f) : Inv (D.rm i f u v) t := by
 have hmem : ∀ g ∈ D.fs.eraseIdx i, g ∈ D.fs ∧ g.id ≠ f.id := fun g hg => by
  obtain ⟨j, hj⟩ := List.getElem?_of_mem hg
  rw [List.getElem?_eraseIdx] at hj
  have key : ∀ m, m ≠ i → D.fs[m]? = some g → g ∈ D.fs ∧ g.id ≠ f.id := fun m hm h2 => ⟨List.mem_of_getElem? h2, fun e2 => hm (by
   have h1 : (D.fs.map (·.id))[i]? = some f.id := by rw [List.getElem?_map, hf]; rfl
   have h3 : (D.fs.map (·.id))[m]? = some f.id := by rw [List.getElem?_map, h2, ← e2]; rfl
   exact ((List.getElem?_inj (by rw [List.length_map]; exact (List.getElem?_eq_some_iff.1 hf).1) h.ids).1 (h1.trans h3.symm)).symm)⟩
  by_cases e : j < i
  ·rw [if_pos e] at hj; exact key j (by omega) hj
  ·rw [if_neg e] at hj; exact key (j + 1) (by omega) hj
 refine ⟨h.turns.filter _, fun x hx => h.tmax x (keep_mem x hx), fun x hx => ?_, ?_, fun g hg => h.idm g (hmem g hg).1, h.idt, fun g hg => ?_⟩
 ·have hx' : x ∈ D.ws.filter (keepW f.id 0) := hx
  obtain ⟨h1, h2⟩ := List.mem_filter.1 hx'
  obtain ⟨g, hg, e⟩ := h.own x h1
  refine ⟨g, ?_, e⟩
  have hne : g ≠ f := fun e2 => by
   unfold keepW at h2
   rw [← e, e2] at h2
   simp at h2
  obtain ⟨j, hj⟩ := List.getElem?_of_mem hg
  have hji : j ≠ i := fun e2 => hne (by rw [e2, hf] at hj; exact (Option.some.inj hj).symm)
  show g ∈ D.fs.eraseIdx i
  by_cases e2 : j < i
  ·exact List.mem_of_getElem? (i := j) (by rw [List.getElem?_eraseIdx, if_pos e2]; exact hj)
  ·exact List.mem_of_getElem? (i := j - 1) (by rw [List.getElem?_eraseIdx, if_neg (by omega), show j - 1 + 1 = j from by omega]; exact hj)
 ·show ((D.fs.eraseIdx i).map (·.id)).Nodup
  exact h.ids.sublist (List.Sublist.map _ (List.eraseIdx_sublist ..))
 ·have hg' : g ∈ D.fs.eraseIdx i := hg
  obtain ⟨h1, h2⟩ := hmem g hg'
  show LastOk (wrM (D.ws.filter (keepW f.id 0)) g.id) g.now
  rw [keep_other g.id h2]
  exact h.redo g h1
theorem rm_abs {ws : List RW} {fs : List MF} {i : Nat} {f : MF} (hn : ((absW ws fs).map (·.1)).Nodup) (hids : (fs.map (·.id)).Nodup) (hf : fs[i]? = some f) : absW (ws.filter (keepW f.id 0)) (fs.eraseIdx i) = restA (absW ws fs) (nmM f.name) := by
 rw [absW_erase hf hids keep_other]
 exact erase_rest hn (absW_at hf)
theorem Eqv.remove (h : Eqv K D ks) (hK : DiskAt w d K) (hf0 : D.fallsB = false) {s : ByteArray} {i : Nat} {f : MF} {u v : Value} (hat : atN D.fs s = some i) (hi : D.fs[i]? = some f) :
  Eqv { counted K with files := restF K.files s.data.toList } (D.count.rm i f u v) ks := by
 obtain ⟨q1, q2, q3, q4, q5⟩ := count_fs D
 have hnm := atN_name hat hi
 subst hnm
 have hc := h.count hf0
 refine hc.step (K1 := { counted K with files := restF K.files f.name.data.toList }) ?_ (hc.inv.rm (by rw [q1]; exact hi)) ⟨rfl, rfl, rfl, rfl, rfl⟩ ⟨rfl, rfl, rfl, rfl⟩
 show (absL (restF K.files f.name.data.toList)).Perm (absW (D.count.ws.filter (keepW f.id 0)) (D.count.fs.eraseIdx i))
 rw [q1, q2, rm_abs (h.nodup hK) h.inv.ids hi, rest_abs]
 exact restA_perm h.abs _
theorem Inv.named {t : Nat} {i : Nat} {f : MF} {nm : ByteArray} (h : Inv D t) (hf : D.fs[i]? = some f) : Inv (D.named i f nm) t := by
 have := h.set (u := D.lv) (v := D.wv) (f' := { f with name := nm }) (ws' := D.ws) hf rfl (Nat.le_refl _) h.turns h.tmax (fun x hx => .inl hx) (fun _ _ => rfl) (h.redo f (List.mem_of_getElem? hf))
 exact this
theorem named_abs {ws : List RW} {fs : List MF} {i : Nat} {f : MF} (nm : ByteArray) (hn : ((absW ws fs).map (·.1)).Nodup) (hids : (fs.map (·.id)).Nodup) (hf : fs[i]? = some f) : (absW ws (fs.set i { f with name := nm })).Perm ((nmM nm, afM ws f) :: restA (absW ws fs) (nmM f.name)) := by
 rw [absW_set hf hids (fun _ _ => rfl)]
 have key : ∀ {A : AL} {i : Nat} {n n' : List UInt8} {a a' : AF}, (A.map (·.1)).Nodup → A[i]? = some (n, a) → (A.set i (n', a')).Perm ((n', a') :: restA A n) := by
  intro A
  induction A with
  | nil => intro i n n' a a' _ h; simp at h
  | cons p r ih =>
   intro i n n' a a' hn h
   cases i with
   | zero =>
    obtain rfl : p = (n, a) := by simpa using h
    have hno : restA r n = r := rest_self hn
    rw [List.set_cons_zero]
    unfold restA at hno ⊢
    rw [List.filter_cons_of_neg (by simp), hno]
   | succ i =>
    have h' : r[i]? = some (n, a) := by simpa using h
    have ih' := ih (n' := n') (a' := a') (List.nodup_cons.1 hn).2 h'
    have hne : p.1 ≠ n := name_ne hn h'
    rw [List.set_cons_succ]
    unfold restA at ih' ⊢
    rw [List.filter_cons_of_pos (by simpa using hne)]
    exact (ih'.cons p).trans (List.Perm.swap _ _ _)
 exact key hn (absW_at hf)
theorem rest_noneA {A : AL} {n : List UInt8} (h : getA A n = none) : restA A n = A := by
 refine List.filter_eq_self.2 fun p hp => ?_
 simp only [bne_iff_ne]
 intro e
 unfold getA at h
 have h9 : (A.find? (·.1 == n)) = none := by simpa using h
 have := List.find?_eq_none.1 h9 p hp
 simp [e] at this
theorem rest_comm (A : AL) (n m : List UInt8) : restA (restA A n) m = restA (restA A m) n := by
 unfold restA
 rw [List.filter_filter, List.filter_filter]
 apply List.filter_congr
 intro x _
 exact Bool.and_comm _ _
theorem rest_names {A : AL} (h : (A.map (·.1)).Nodup) (n : List UInt8) : ((restA A n).map (·.1)).Nodup := h.sublist (List.Sublist.map _ List.filter_sublist)
theorem get_rest_other {A : AL} {n m : List UInt8} (h : m ≠ n) : getA (restA A n) m = getA A m := getA_rest A h
theorem Eqv.renamed (h : Eqv K D ks) (hK : DiskAt w d K) (hf0 : D.fallsB = false) {s t : ByteArray} {i : Nat} {f : MF} {F : Fl} {D1 : RM} (hat : atN D.fs s = some i) (hi : D.fs[i]? = some f) (hF : getF K.files s.data.toList = some F)
  (hp : ((nmM t, afM D.ws f) :: restA (restA (absM D) (nmM s)) (nmM t)).Perm (absM D1)) (hinv : Inv D1 K.turn) (e2 : D1.off = D.count.off ∧ D1.room = D.count.room ∧ D1.armed = D.count.armed ∧ D1.n = D.count.n) :
  Eqv { counted K with files := renF K.files s.data.toList t.data.toList F } D1 ks := by
 have hc := h.count hf0
 have ht : (counted K).turn = K.turn := by unfold counted; split <;> rfl
 refine hc.step (K1 := { counted K with files := renF K.files s.data.toList t.data.toList F }) ?_ (by show Inv D1 (counted K).turn; rw [ht]; exact hinv) ⟨rfl, rfl, rfl, rfl, rfl⟩ e2
 show (absL (renF K.files s.data.toList t.data.toList F)).Perm _
 rw [ren_abs, h.F_abs hK hat hi hF]
 exact ((restA_perm (restA_perm h.abs _) _).cons _).trans hp
end
end Go.Proofs.YtbkngnjkaledlaaGreat.P4
