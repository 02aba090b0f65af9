/-
  Texts of the proof of SaidPlays, side by side: Eq0, Eq1, Eq2.
-/
import Derived.Test.YtaabepiddbnggaaGreatMp21
import Derived.Test.YtaabepiddbnggaaGreatMp20
import Derived.Test.YtaabepiddbnggaaGreatMp22
import Derived.Test.YtaabepiddbnggaaGreatMp29
import Derived.Test.YtaabepiddbnggaaGreatMp30
import Derived.Test.YtaabepiddbnggaaGreatMp31
import Derived.Test.YtaabepiddbnggaaGreatMp33
/-
  The program's disk beside the document's, in plain words, part 0: the same files.
-/
namespace Go.Proofs.YtaabepiddbnggaaGreat.P4
open Go Go.RowKit Go.Lib Go.Maps Go.ChangeMaps Go.MapKept Go.Proofs.YtaabepiddbnggaaGreat.P3

/-- the writes of a file that are not safe -/
def wrM (ws : List RW) (id : Nat) : List (Nat × Nat × ByteArray) := (ws.filter fun x => decide (x.file = id)).map fun x => (x.turn, x.pos, x.data)
def afM (ws : List RW) (f : MF) : AF := ⟨f.now, f.safe, f.made, wrM ws f.id⟩
def nmM (s : ByteArray) : List UInt8 := s.data.toList
def absW (ws : List RW) (fs : List MF) : AL := fs.map fun f => (nmM f.name, afM ws f)
abbrev absM (D : RM) : AL := absW D.ws D.fs
theorem nm_inj {s t : ByteArray} (h : nmM s = nmM t) : s = t := rd_ext h
theorem absW_at {ws : List RW} {fs : List MF} {i : Nat} {f : MF} (h : fs[i]? = some f) : (absW ws fs)[i]? = some (nmM f.name, afM ws f) := by unfold absW; rw [List.getElem?_map, h]; rfl
theorem absW_names (ws : List RW) (fs : List MF) : (absW ws fs).map (·.1) = fs.map fun f => nmM f.name := by unfold absW; rw [List.map_map]; rfl
/-- the file of a name -/
theorem get_at (ws : List RW) (s : ByteArray) : ∀ fs : List MF, getA (absW ws fs) (nmM s) = (atN fs s).bind fun i => fs[i]?.map (afM ws)
  | [] => rfl
  | f :: fs => by
    have ih := get_at ws s fs
    show getA ((nmM f.name, afM ws f) :: absW ws fs) (nmM s) = _
    unfold atN
    rw [List.findIdx?_cons]
    by_cases h : f.name = s
    · rw [if_pos (decide_eq_true h), h, getA_self]
      rfl
    · rw [if_neg (by simpa using h), getA_other (fun e => h (nm_inj e).symm), ih]
      show _ = Option.bind (Option.map _ (atN fs s)) _
      cases atN fs s <;> simp
theorem get_some {ws : List RW} {fs : List MF} {s : ByteArray} {i : Nat} {f : MF} (h : atN fs s = some i) (hf : fs[i]? = some f) : getA (absW ws fs) (nmM s) = some (afM ws f) := by rw [get_at, h]; simp [hf]
theorem get_none {ws : List RW} {fs : List MF} {s : ByteArray} (h : atN fs s = none) : getA (absW ws fs) (nmM s) = none := by rw [get_at, h]; rfl
theorem rest_self {p : List UInt8 × AF} {r : AL} (hn : ((p :: r).map (·.1)).Nodup) : restA r p.1 = r := by
  refine List.filter_eq_self.2 fun q hq => ?_
  have h1 : p.1 ∉ r.map (·.1) := (List.nodup_cons.1 hn).1
  simp only [bne_iff_ne]
  intro e
  exact h1 (List.mem_map.2 ⟨q, hq, e⟩)
theorem name_ne {p : List UInt8 × AF} {r : AL} {i : Nat} {n : List UInt8} {a : AF} (hn : ((p :: r).map (·.1)).Nodup) (h : r[i]? = some (n, a)) : p.1 ≠ n := by
  have h1 : p.1 ∉ r.map (·.1) := (List.nodup_cons.1 hn).1
  intro e
  exact h1 (List.mem_map.2 ⟨(n, a), List.mem_of_getElem? h, e.symm⟩)
theorem set_rest : ∀ {A : AL} {i : Nat} {n : List UInt8} {a a' : AF}, (A.map (·.1)).Nodup → A[i]? = some (n, a) → (A.set i (n, a')).Perm ((n, a') :: restA A n)
  | [], _, _, _, _, _, h => by simp at h
  | p :: r, 0, n, a, a', hn, h => by
    obtain rfl : p = (n, a) := by simpa using h
    have hno : restA r n = r := rest_self hn
    rw [List.set_cons_zero]
    unfold restA at hno ⊢
    rw [List.filter_cons_of_neg (by simp), hno]
  | p :: r, i + 1, n, a, a', hn, h => by
    have h' : r[i]? = some (n, a) := by simpa using h
    have ih := set_rest (a' := a') (List.nodup_cons.1 hn).2 h'
    have hne : p.1 ≠ n := name_ne hn h'
    rw [List.set_cons_succ]
    unfold restA at ih ⊢
    rw [List.filter_cons_of_pos (by simpa using hne)]
    exact (ih.cons p).trans (List.Perm.swap _ _ _)
theorem erase_rest : ∀ {A : AL} {i : Nat} {n : List UInt8} {a : AF}, (A.map (·.1)).Nodup → A[i]? = some (n, a) → A.eraseIdx i = restA A n
  | [], _, _, _, _, h => by simp at h
  | p :: r, 0, n, a, hn, h => by
    obtain rfl : p = (n, a) := by simpa using h
    have hno : restA r n = r := rest_self hn
    unfold restA at hno ⊢
    rw [List.filter_cons_of_neg (by simp), hno]
    rfl
  | p :: r, i + 1, n, a, hn, h => by
    have h' : r[i]? = some (n, a) := by simpa using h
    have ih := erase_rest (List.nodup_cons.1 hn).2 h'
    have hne : p.1 ≠ n := name_ne hn h'
    show p :: r.eraseIdx i = _
    unfold restA at ih ⊢
    rw [List.filter_cons_of_pos (by simpa using hne), ih]
/-- the last write of a sector holds its bytes -/
def LastOk (l : List (Nat × Nat × ByteArray)) (now : List ByteArray) : Prop := ∀ a x r, l = a ++ x :: r → (∀ y ∈ r, y.2.1 ≠ x.2.1) → now[x.2.1]? = some x.2.2
/-- the document's disk is sound; t: the writes so far -/
structure Inv (D : RM) (t : Nat) : Prop where
  turns : D.ws.Pairwise (fun x y => x.turn < y.turn)
  tmax : ∀ x ∈ D.ws, x.turn ≤ t
  own : ∀ x ∈ D.ws, ∃ f ∈ D.fs, f.id = x.file
  ids : (D.fs.map (·.id)).Nodup
  idm : ∀ f ∈ D.fs, 1 ≤ f.id ∧ f.id ≤ D.ids
  idt : D.ids ≤ t
  redo : ∀ f ∈ D.fs, LastOk (wrM D.ws f.id) f.now
/-- the same disk -/
structure Eqv (K : Dk) (D : RM) (ks : List Int) : Prop where
  abs : (absL K.files).Perm (absM D)
  on : D.off = !K.on
  room : K.room = D.room
  armed : K.armed = D.armed
  left : D.armed = true → K.left = D.n ∧ K.keep = ks ∧ 0 ≤ D.n
  calm : D.armed = false → K.left = 0 ∧ K.keep = []
  nle : D.n ≤ 9223372036854775807
  few : K.keep.length ≤ 10000
  inv : Inv D K.turn
section
variable {w : World} {d : Nat} {K : Dk} {D : RM} {ks : List Int}
theorem Eqv.da (h : Eqv K D ks) (hK : DiskAt w d K) : DA w d K (absM D) := ⟨hK, h.abs⟩
theorem Eqv.nodup (h : Eqv K D ks) (hK : DiskAt w d K) : ((absM D).map (·.1)).Nodup := (h.da hK).names
theorem Eqv.len (h : Eqv K D ks) : K.files.length = D.fs.length := by
  have := h.abs.length_eq
  unfold absM absW absL at this
  simpa using this
theorem Eqv.leftle (h : Eqv K D ks) : K.left ≤ 9223372036854775807 := by
  cases ha : D.armed with
  | true => rw [(h.left ha).1]; exact h.nle
  | false => rw [(h.calm ha).1]; decide
theorem Eqv.h0 (h : Eqv K D ks) : D.armed = true → 0 ≤ D.n := fun ha => (h.left ha).2.2
theorem Eqv.get (h : Eqv K D ks) (hK : DiskAt w d K) (s : ByteArray) : (getF K.files s.data.toList).map Fl.abs = (atN D.fs s).bind fun i => D.fs[i]?.map (afM D.ws) := by
  have := (h.da hK).get (nmM s)
  rw [get_at] at this
  exact this
theorem Eqv.getNone (h : Eqv K D ks) (hK : DiskAt w d K) {s : ByteArray} (ha : atN D.fs s = none) : getF K.files s.data.toList = none := by
  have := h.get hK s
  rw [ha] at this
  simpa using this
theorem Eqv.getSome (h : Eqv K D ks) (hK : DiskAt w d K) {s : ByteArray} {i : Nat} {f : MF} (ha : atN D.fs s = some i) (hf : D.fs[i]? = some f) : ∃ F, getF K.files s.data.toList = some F ∧ F.abs = afM D.ws f := by
  have := h.get hK s
  rw [ha] at this
  simp only [Option.bind_some, hf, Option.map_some] at this
  obtain ⟨F, h1, h2⟩ := Option.map_eq_some_iff.1 this
  exact ⟨F, h1, h2⟩
theorem Eqv.size (h : Eqv K D ks) (hK : DiskAt w d K) (s : ByteArray) : sizeN K.files s.data.toList = sizeM D s := by
  cases ha : atN D.fs s with
  | none =>
    rw [sizeM_none ha]
    unfold sizeN
    rw [h.getNone hK ha]
  | some i =>
    obtain ⟨f, hf, _⟩ := atN_some ha
    obtain ⟨F, h1, h2⟩ := h.getSome hK ha hf
    rw [sizeM_some ha hf]
    unfold sizeN
    rw [h1]
    have := congrArg (fun A : AF => A.now.length) h2
    simpa [Fl.abs, afM] using this
theorem on_not {on off : Bool} (h : off = !on) : (on = false ↔ off = true) := by cases on <;> simp [h]
theorem Eqv.errn (h : Eqv K D ks) (s : ByteArray) : P4.errn K.on s.size = if D.off = true then 14 else if nameOk s = false then 1 else 0 := by
  unfold P4.errn
  have e := on_not h.on
  by_cases hoff : D.off = true
  · rw [if_pos hoff, if_pos (e.2 hoff)]
  · rw [if_neg hoff, if_neg (fun q => hoff (e.1 q))]
    unfold nameOk
    by_cases hn : 1 ≤ s.size ∧ s.size ≤ 40
    · rw [if_neg (by omega), if_neg (by simp [hn])]
    · rw [if_pos (by omega), if_pos (by simp; omega)]
theorem Eqv.errF (h : Eqv K D ks) (hK : DiskAt w d K) (s : ByteArray) : P4.errF K.on s.size (getF K.files s.data.toList) = errR D s := by
  unfold P4.errF errR
  rw [h.errn s]
  by_cases hoff : D.off = true
  · rw [if_pos hoff, if_pos hoff, if_neg (by decide)]
  · rw [if_neg hoff, if_neg hoff]
    by_cases hn : nameOk s = false
    · rw [if_pos hn, if_pos hn, if_neg (by decide)]
    · rw [if_neg hn, if_neg hn, if_pos rfl]
      cases ha : atN D.fs s with
      | none => rw [h.getNone hK ha]; simp
      | some i =>
        obtain ⟨f, hf, _⟩ := atN_some ha
        obtain ⟨F, h1, h2⟩ := h.getSome hK ha hf
        rw [h1]; simp
end

end Go.Proofs.YtaabepiddbnggaaGreat.P4

/-
  The program's disk beside the document's, part 1: what they tell is the same.
-/
namespace Go.Proofs.YtaabepiddbnggaaGreat.P4
open Go Go.RowKit Go.Lib Go.Maps Go.ChangeMaps Go.MapKept Go.Proofs.YtaabepiddbnggaaGreat.P3

section
variable {w : World} {d : Nat} {K : Dk} {D : RM} {ks : List Int}
theorem errR_ne {D : RM} {s : ByteArray} (h : atN D.fs s = none) : errR D s ≠ 0 := by
  unfold errR
  split
  · decide
  · split
    · decide
    · first | decide | (rw [if_pos h]; decide)
theorem sizeR_eq {D : RM} {s : ByteArray} (h : errR D s = 0) : sizeR D s = sizeM D s := by unfold sizeR sizeM; rw [if_pos h]
theorem Eqv.sizeF (h : Eqv K D ks) (hK : DiskAt w d K) (s : ByteArray) : P4.sizeF K.on s.size (getF K.files s.data.toList) = sizeR D s := by
  have he := h.errF hK s
  by_cases h0 : errR D s = 0
  · rw [sizeR_eq h0, ← h.size hK s]
    rw [h0] at he
    obtain ⟨e1, F, e2⟩ := errF_zero he
    unfold P4.sizeF sizeN
    rw [if_pos e1, e2]
  · unfold sizeR
    rw [if_neg h0]
    unfold P4.sizeF
    split
    · rename_i e1
      cases hg : getF K.files s.data.toList with
      | none => rfl
      | some F =>
        rw [hg] at he
        unfold P4.errF at he
        rw [if_pos e1] at he
        exact absurd he.symm h0
    · rfl
theorem Eqv.now (h : Eqv K D ks) (hK : DiskAt w d K) {s : ByteArray} {i : Nat} {f : MF} (ha : atN D.fs s = some i) (hf : D.fs[i]? = some f) (j : Nat) : nowOf (getF K.files s.data.toList) j = f.now.getD j ⟨#[]⟩ := by
  show nowOf (getF K.files (nmM s)) j = _
  rw [(h.da hK).now (nmM s) j]
  show nowA (getA (absW D.ws D.fs) (nmM s)) j = _
  rw [get_some ha hf]
  rfl
theorem Eqv.read (h : Eqv K D ks) (hK : DiskAt w d K) (s : ByteArray) (z : Int) : (readT K s z, readE K s z) = readR D s z := by
  have he := h.errF hK s
  have hs := h.size hK s
  by_cases h0 : errR D s = 0
  · obtain ⟨_, _, i, f, hat, hf, _⟩ := errR_zero h0
    have hsz := sizeM_some hat hf
    have hR : readR D s z = if 0 ≤ z ∧ z < f.now.length then (f.now.getD z.toNat ⟨#[]⟩, 0) else (⟨#[]⟩, 15) := by
      unfold readR
      rw [if_pos h0, hat]
      simp only [Option.bind_some, hf]
    have hE : readE K s z = if z < 0 ∨ (f.now.length : Int) ≤ z then 15 else 0 := by
      unfold readE
      rw [he, if_neg (by simp [h0]), hs, hsz]
    rw [hR]
    by_cases hz : 0 ≤ z ∧ z < f.now.length
    · rw [if_pos hz]
      have e1 : readE K s z = 0 := by rw [hE, if_neg (by omega)]
      unfold readT
      rw [e1, if_neg (by decide), h.now hK hat hf]
    · rw [if_neg hz]
      have e1 : readE K s z = 15 := by rw [hE, if_pos (by omega)]
      unfold readT
      rw [e1, if_pos (by decide)]
  · rw [readR_err h0]
    have e1 : readE K s z = errR D s := by unfold readE; rw [he, if_pos h0]
    unfold readT
    rw [e1, if_pos h0]
theorem Eqv.cutE (h : Eqv K D ks) (hK : DiskAt w d K) (s : ByteArray) (z : Int) : P4.cutE K s z = cutErr D s z := by
  unfold P4.cutE cutErr
  rw [h.errF hK s, h.size hK s]
  by_cases h0 : errR D s = 0
  · have hh : ¬ errR D s ≠ 0 := fun q => q h0
    rw [if_neg hh, if_neg hh, sizeR_eq h0]
  · rw [if_pos h0, if_pos h0]
theorem Eqv.renE (h : Eqv K D ks) (hK : DiskAt w d K) (s t : ByteArray) : P4.renE K s t = errN D s t := by
  unfold P4.renE errn2 errN
  rw [h.errF hK s, h.errn s, h.errn t]
  by_cases ho : D.off = true
  · simp [ho]
  · simp only [if_neg ho]
    by_cases hs : nameOk s = false
    · simp [hs]
    · by_cases ht : nameOk t = false
      · simp [hs, ht]
      · have e : errR D s = if atN D.fs s = none then 8 else 0 := by unfold errR; rw [if_neg ho, if_neg hs]
        simp [hs, ht, e]
theorem sum_at (L : Files) : sumOf (fun F => F.secs.length) L = ((absL L).map fun p => p.2.now.length).sum := by
  unfold sumOf absL absP
  rw [List.map_map]
  congr 1
  apply List.map_congr_left
  intro p _
  simp [Fl.abs]
theorem sum_abs (D : RM) : ((absM D).map fun p => p.2.now.length).sum = usedM D.fs := by
  unfold usedM absM absW
  rw [List.map_map]
  rfl
theorem Eqv.used (h : Eqv K D ks) : usedOf K.files = usedM D.fs := by
  unfold usedOf
  rw [sum_at, ← sum_abs]
  exact (h.abs.map _).sum_nat
theorem Eqv.full (h : Eqv K D ks) : fullOf K = (decide (0 < D.room) && decide (D.room ≤ (usedM D.fs : Int))) := by
  unfold fullOf
  rw [h.room, h.used]
theorem Eqv.writeE (h : Eqv K D ks) (hK : DiskAt w d K) (s : ByteArray) (i : Int) (z : Nat) : P4.writeE K s i z = errW D s i z := by
  unfold P4.writeE errW
  rw [h.errn s, h.size hK s, h.full, h.len]
  by_cases ho : D.off = true
  · simp [ho]
  · simp only [if_neg ho]
    by_cases hn : nameOk s = false
    · simp [hn]
    · by_cases hz : z = 256
      · by_cases hi : i < 0 ∨ (sizeM D s : Int) < i ∨ 4000 < i
        · simp [hn, hz, hi]
        · obtain ⟨q, rfl⟩ : ∃ q : Nat, i = q := ⟨i.toNat, by omega⟩
          have e1 : ((q : Int) = (sizeM D s : Int)) ↔ q = sizeM D s := by omega
          have e2 : getF K.files s.data.toList = none ↔ atN D.fs s = none := by
            constructor
            · intro hg
              cases ha : atN D.fs s with
              | none => rfl
              | some i =>
                obtain ⟨f, hf, _⟩ := atN_some ha
                obtain ⟨F, h1, _⟩ := h.getSome hK ha hf
                rw [h1] at hg
                cases hg
            · exact fun ha => h.getNone hK ha
          have e3 : fullM D s (q : Int).toNat = true ↔ ((q = sizeM D s ∧ (decide (0 < D.room) && decide (D.room ≤ (usedM D.fs : Int))) = true) ∨ (atN D.fs s = none ∧ 60 ≤ D.fs.length)) := by
            show fullM D s q = true ↔ _
            unfold fullM
            cases atN D.fs s <;> simp [and_assoc]
          simp only [if_neg hi, e1, e2, e3, hn, hz]
          by_cases hA : q = sizeM D s ∧ (decide (0 < D.room) && decide (D.room ≤ (usedM D.fs : Int))) = true
          · simp [hA]
          · by_cases hB : atN D.fs s = none ∧ 60 ≤ D.fs.length
            · rw [if_neg (by simp), if_neg (by simp), if_neg hA, if_pos hB, if_neg (by simp), if_pos (.inr hB)]
            · rw [if_neg (by simp), if_neg (by simp), if_neg hA, if_neg hB, if_neg (by simp), if_neg (fun q => q.elim hA hB)]
      · simp [hn, hz]
end

/-- a list in parts -/
theorem parts_perm {α : Type} (key : α → Nat) : ∀ (ks : List Nat) (l : List α), ks.Nodup → (∀ x ∈ l, key x ∈ ks) → (ks.flatMap fun k => l.filter fun x => decide (key x = k)).Perm l
  | [], l, _, h => by
    obtain rfl : l = [] := List.eq_nil_iff_forall_not_mem.2 fun x hx => by simpa using h x hx
    exact List.Perm.refl _
  | k :: ks, l, hn, h => by
    rw [List.flatMap_cons]
    have hk := List.nodup_cons.1 hn
    have e : (ks.flatMap fun k' => l.filter fun x => decide (key x = k')) = ks.flatMap fun k' => (l.filter fun x => !decide (key x = k)).filter fun x => decide (key x = k') := by
      rw [List.flatMap_def, List.flatMap_def]
      congr 1
      apply List.map_congr_left
      intro k' hk'
      rw [List.filter_filter]
      apply List.filter_congr
      intro x _
      by_cases e : key x = k'
      · have : key x ≠ k := fun e2 => hk.1 (by rw [← e2, e]; exact hk')
        simp [e, this]
        exact fun e3 => this (by rw [e, e3])
      · simp [e]
    have ih := parts_perm key ks (l.filter fun x => !decide (key x = k)) hk.2 (fun x hx => by
      obtain ⟨h1, h2⟩ := List.mem_filter.1 hx
      rcases List.mem_cons.1 (h x h1) with q | q
      · simp [q] at h2
      · exact q)
    rw [e]
    exact (ih.append_left _).trans (List.filter_append_perm _ _)
theorem ws_perm {D : RM} {t : Nat} (h : Inv D t) : (wsA (absM D)).Perm (D.ws.map fun x => (x.turn, x.pos, x.data)) := by
  have e : wsA (absM D) = (((D.fs.map (·.id)).flatMap fun k => D.ws.filter fun x => decide (x.file = k))).map fun x => (x.turn, x.pos, x.data) := by
    unfold wsA absM absW
    rw [List.flatMap_map, List.flatMap_map, List.map_flatMap]
    rfl
  rw [e]
  refine (parts_perm (fun x : RW => x.file) _ _ h.ids fun x hx => ?_).map _
  obtain ⟨f, hf, e⟩ := h.own x hx
  exact List.mem_map.2 ⟨f, hf, e⟩
theorem Eqv.dirty {K : Dk} {D : RM} {ks : List Int} (h : Eqv K D ks) : (allW K.files).length = D.ws.length := by
  have h1 := (wsA_perm h.abs).length_eq
  rw [wsA_abs, List.length_map, (ws_perm h.inv).length_eq, List.length_map] at h1
  exact h1

end Go.Proofs.YtaabepiddbnggaaGreat.P4

/-
  The program's disk beside the document's, part 2: a crash.
-/
namespace Go.Proofs.YtaabepiddbnggaaGreat.P4
open Go Go.RowKit Go.Lib Go.Maps Go.ChangeMaps Go.MapKept Go.Proofs.YtaabepiddbnggaaGreat.P3

theorem rank_rw {ws : List RW} (hs : ws.Pairwise (fun x y => x.turn < y.turn)) {i : Nat} {x : RW} (hx : ws[i]? = some x) : (ws.filter fun y => decide (y.turn < x.turn)).length = i := by
  obtain ⟨hi, hxe⟩ := List.getElem?_eq_some_iff.1 hx
  have e : ws = ws.take i ++ x :: ws.drop (i + 1) := by
    rw [← hxe, List.getElem_cons_drop, List.take_append_drop]
  have hs2 := hs
  rw [e, List.pairwise_append, List.pairwise_cons] at hs2
  conv => lhs; rw [e]
  rw [List.filter_append, List.filter_cons_of_neg (by simp), List.filter_eq_self.2 (fun y hy => by simpa using hs2.2.2 y hy x (by simp)), List.filter_eq_nil_iff.2 (fun y hy => by have := hs2.2.1.1 y hy; simp; omega)]
  rw [List.append_nil, List.length_take]
  omega
section
variable {w w' : World} {d : Nat} {K K' : Dk} {D E : RM} {ks : List Int}
theorem kept_at {t : Nat} (h : Inv D t) (ks : List Int) {i : Nat} {x : RW} (hx : D.ws[i]? = some x) : keptA (absM D) ks x.turn = kapM ks i := by
  unfold keptA rankA kapM
  rw [((ws_perm h).filter _).length_eq, List.filter_map, List.length_map]
  have e : ((fun y : Nat × Nat × ByteArray => decide (y.1 < x.turn)) ∘ fun x : RW => (x.turn, x.pos, x.data)) = fun y => decide (y.turn < x.turn) := rfl
  rw [e, rank_rw h.turns hx]
theorem zip_get {α : Type} {l : List α} {p : α × Nat} (h : p ∈ l.zipIdx) : l[p.2]? = some p.1 := List.mem_zipIdx_iff_getElem?.1 h
theorem trips_eq {t : Nat} (h : Inv D t) (ks : List Int) (id : Nat) : (wrM D.ws id).map (tripA (keptA (absM D) ks)) = tripsM (kapM ks) D.ws id := by
  unfold wrM tripsM
  rw [List.map_map]
  have e1 : D.ws = D.ws.zipIdx.map (·.1) := by rw [List.zipIdx_map_fst]
  conv => lhs; rw [e1]
  rw [List.filter_map, List.map_map]
  apply List.map_congr_left
  intro p hp
  have hp2 := zip_get (List.mem_filter.1 hp).1
  show tripA (keptA (absM D) ks) (p.1.turn, p.1.pos, p.1.data) = _
  unfold tripA
  rw [kept_at h ks hp2]
theorem lost_eq {t : Nat} (h : Inv D t) (ks : List Int) : lostA (keptA (absM D) ks) (absM D) = D.lost (kapM ks) := by
  unfold lostA RM.lost
  rw [((ws_perm h).filter _).length_eq, List.filter_map, List.length_map, ← List.countP_eq_length_filter]
  have e1 : D.ws = D.ws.zipIdx.map (·.1) := by rw [List.zipIdx_map_fst]
  have e2 : List.range D.ws.length = D.ws.zipIdx.map (·.2) := by rw [List.zipIdx_map_snd, List.range_eq_range']
  conv => lhs; rw [e1]
  rw [e2, List.countP_map, List.countP_map]
  apply List.countP_congr
  intro p hp
  have hp2 := zip_get hp
  show decide (keptA (absM D) ks p.1.turn < 256) = true ↔ decide (kapM ks p.2 < 256) = true
  rw [kept_at h ks hp2]
theorem keep_pos : ∀ (l : List (Nat × Nat × ByteArray)) (S : List ByteArray), 0 < (keepAll S l).length ↔ 0 < S.length ∨ (l.any fun x => decide (x.1 ≠ 0)) = true
  | [], S => by simp [keepAll]
  | x :: l, S => by
    have ih := keep_pos l (keepOne S x)
    have e : keepAll S (x :: l) = keepAll (keepOne S x) l := rfl
    rw [e, ih]
    by_cases hx : x.1 = 0
    · have e2 : keepOne S x = S := by unfold keepOne; rw [if_pos hx]
      rw [e2, List.any_cons]
      simp [hx]
    · have e2 : 0 < (keepOne S x).length := by unfold keepOne; rw [if_neg hx, setPad_length]; omega
      rw [List.any_cons]
      simp [hx, e2]
theorem Eqv.made (h : Eqv K D ks) (hK : DiskAt w d K) {f : MF} (hf : f ∈ D.fs) (hm : f.made = false) : f.safe = [] := by
  have h1 : (nmM f.name, afM D.ws f) ∈ absM D := List.mem_map.2 ⟨f, hf, rfl⟩
  obtain ⟨p, hp, e⟩ := List.mem_map.1 (h.abs.mem_iff.2 h1)
  have ok := hK.files.ok p hp
  have e2 : p.2.abs = afM D.ws f := congrArg (·.2) e
  have e3 : p.2.stays = f.made := congrArg AF.made e2
  have e4 : (p.2.secs.take p.2.ns).map (·.safe) = f.safe := congrArg AF.safe e2
  rw [ok.made (by rw [e3]; exact hm)] at e4
  simpa using e4.symm
theorem absM_empty {E : RM} (h : E.ws = []) : absM E = (E.fs.map MF.core).map fun c => (nmM c.1, (⟨c.2.2.1, c.2.2.2.1, c.2.2.2.2, []⟩ : AF)) := by
  show absW E.ws E.fs = _
  rw [h]
  unfold absW
  rw [List.map_map]
  rfl
/-- both lose the power at once -/
theorem Eqv.crash (h : Eqv K D ks) (hK : DiskAt w d K) {xs : List Int} {z : Int} (hc : Crashed w d K xs z K' w') (hE : CrM D E (kapM xs)) : z = (D.lost (kapM xs) : Nat) ∧ Eqv K' E ks := by
  obtain ⟨h1, h2⟩ := hc.absA (h.da hK)
  have e1 : absM E = (absM D).filterMap (crA (keptA (absM D) xs)) := by
    rw [absM_empty hE.ws, hE.files, List.map_map]
    show _ = ((D.fs.map fun f => (nmM f.name, afM D.ws f))).filterMap _
    rw [List.filterMap_map]
    have key : ∀ (l : List MF), (∀ f ∈ l, f ∈ D.fs) → (l.filter fun f => f.stays (kapM xs) D.ws).map ((fun c : ByteArray × Nat × List ByteArray × List ByteArray × Bool => (nmM c.1, (⟨c.2.2.1, c.2.2.2.1, c.2.2.2.2, []⟩ : AF))) ∘ MF.left (kapM xs) D.ws) = l.filterMap (crA (keptA (absM D) xs) ∘ fun f => (nmM f.name, afM D.ws f)) := by
      intro l hl
      induction l with
      | nil => rfl
      | cons f l ih =>
        have ih' := ih fun g hg => hl g (List.mem_cons_of_mem _ hg)
        have hf := hl f (by simp)
        have ht := trips_eq h.inv xs f.id
        have hst : (f.made || decide (0 < (keepAll f.safe ((wrM D.ws f.id).map (tripA (keptA (absM D) xs)))).length)) = f.stays (kapM xs) D.ws := by
          rw [ht]
          unfold MF.stays
          cases hm : f.made with
          | true => rfl
          | false =>
            rw [Bool.false_or, Bool.false_or, h.made hK hf hm]
            have := keep_pos (tripsM (kapM xs) D.ws f.id) []
            cases hb : (tripsM (kapM xs) D.ws f.id).any fun x => decide (x.1 ≠ 0) with
            | true => exact decide_eq_true (this.2 (.inr hb))
            | false => exact decide_eq_false (fun q => by rcases this.1 q with q | q; exact absurd q (by simp); rw [hb] at q; cases q)
        have hcr : crA (keptA (absM D) xs) (nmM f.name, afM D.ws f) = if f.stays (kapM xs) D.ws = true then some (nmM f.name, (⟨keepAll f.safe (tripsM (kapM xs) D.ws f.id), keepAll f.safe (tripsM (kapM xs) D.ws f.id), true, []⟩ : AF)) else none := by
          unfold crA
          show (if (f.made || decide (0 < (keepAll f.safe ((wrM D.ws f.id).map (tripA (keptA (absM D) xs)))).length)) = true then some (nmM f.name, (afM D.ws f).crash ((wrM D.ws f.id).map (tripA (keptA (absM D) xs)))) else none) = _
          rw [hst, ht]
          rfl
        rw [List.filterMap_cons]
        have hcr2 : (crA (keptA (absM D) xs) ∘ fun f => (nmM f.name, afM D.ws f)) f = if f.stays (kapM xs) D.ws = true then some (nmM f.name, (⟨keepAll f.safe (tripsM (kapM xs) D.ws f.id), keepAll f.safe (tripsM (kapM xs) D.ws f.id), true, []⟩ : AF)) else none := hcr
        rw [hcr2]
        cases hs : f.stays (kapM xs) D.ws with
        | true =>
          rw [List.filter_cons_of_pos (p := fun f => MF.stays f (kapM xs) D.ws) hs, List.map_cons, ih', if_pos rfl]
          rfl
        | false =>
          rw [List.filter_cons_of_neg (p := fun f => MF.stays f (kapM xs) D.ws) (by simp [hs]), ih', if_neg (by simp)]
    exact key D.fs fun f hf => hf
  have he := hc.eq
  have hcore : E.fs.map (·.id) = (D.fs.filter fun f => f.stays (kapM xs) D.ws).map (·.id) := by
    have := congrArg (List.map fun c : ByteArray × Nat × List ByteArray × List ByteArray × Bool => c.2.1) hE.files
    rw [List.map_map, List.map_map] at this
    exact this
  refine ⟨by rw [h1, lost_eq h.inv], ⟨by rw [e1]; exact h2.abs, ?_, ?_, ?_, ?_, ?_, ?_, ?_, ⟨?_, ?_, ?_, ?_, ?_, ?_, ?_⟩⟩⟩
  · rw [hE.off, he]; rfl
  · rw [hE.room, he]; exact h.room
  · rw [hE.armed, he]
  · intro ha; rw [hE.armed] at ha; cases ha
  · intro _; rw [he]; exact ⟨rfl, rfl⟩
  · rw [hE.n]; exact h.nle
  · rw [he]; exact Nat.zero_le _
  · rw [hE.ws]; exact List.Pairwise.nil
  · rw [hE.ws]; intro x hx; simp at hx
  · rw [hE.ws]; intro x hx; simp at hx
  · rw [hcore]
    exact (h.inv.ids.sublist (List.Sublist.map _ List.filter_sublist))
  · intro f hf
    have h9 : f.id ∈ E.fs.map (·.id) := List.mem_map_of_mem hf
    rw [hcore] at h9
    obtain ⟨g, hg, e⟩ := List.mem_map.1 h9
    rw [← e, hE.ids]
    exact h.inv.idm g (List.mem_filter.1 hg).1
  · rw [hE.ids, he]; exact h.inv.idt
  · intro f hf
    rw [hE.ws]
    intro a x r e
    have e' : ([] : List (Nat × Nat × ByteArray)) = a ++ x :: r := e
    simp at e'
end

end Go.Proofs.YtaabepiddbnggaaGreat.P4
