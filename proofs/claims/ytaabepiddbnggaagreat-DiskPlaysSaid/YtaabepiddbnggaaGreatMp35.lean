/-
  Texts of the proof of SaidPlays, side by side: Eq3, Eq4.
-/
import Derived.Test.YtaabepiddbnggaaGreatMp34
/-
  The program's disk beside the document's, part 3: each call leaves the same.
-/
namespace Go.Proofs.YtaabepiddbnggaaGreat.P4
open Go Go.RowKit Go.Lib Go.Maps Go.ChangeMaps Go.MapKept Go.Proofs.YtaabepiddbnggaaGreat.P3

theorem last_nil (now : List ByteArray) : LastOk [] now := fun a x r e => by simp at e
theorem last_snoc {l : List (Nat × Nat × ByteArray)} {now : List ByteArray} (h : LastOk l now) (t i : Nat) (d : ByteArray) (hi : i ≤ now.length) : LastOk (l ++ [(t, i, d)]) (putAt now i d) := by
  intro a x r e hr
  have key : ∀ p : Nat, p ≠ i → (putAt now i d)[p]? = now[p]? ∨ now[p]? = none := fun p hp => by
    unfold putAt
    split
    · by_cases hl : p < now.length
      · exact .inl (List.getElem?_append_left hl)
      · exact .inr (List.getElem?_eq_none (by omega))
    · exact .inl (by rw [List.getElem?_set_ne (fun e => hp e.symm)])
  rcases List.eq_nil_or_concat r with rfl | ⟨r', z, rfl⟩
  · obtain ⟨_, e2⟩ := List.append_inj' e rfl
    obtain rfl : (t, i, d) = x := by simpa using e2
    show (putAt now i d)[i]? = some d
    unfold putAt
    split
    · rename_i hi2; subst hi2; simp
    · rw [List.getElem?_set_self (by omega)]
  · rw [List.concat_eq_append] at e hr
    rw [← List.cons_append, ← List.append_assoc] at e
    obtain ⟨e1, e2⟩ := List.append_inj' e rfl
    obtain rfl : (t, i, d) = z := by simpa using e2
    have hne : i ≠ x.2.1 := hr (t, i, d) (by simp)
    have h9 := h a x r' e1 (fun y hy => hr y (by simp [hy]))
    rcases key x.2.1 (fun e => hne e.symm) with q | q
    · rw [q]; exact h9
    · rw [h9] at q; cases q
theorem last_cut {l : List (Nat × Nat × ByteArray)} {now : List ByteArray} (h : LastOk l now) (n : Nat) : LastOk (l.filter fun x => decide (x.2.1 < n)) (now.take n) := by
  intro a x r e hr
  obtain ⟨l1, l2, e0, e1, e2⟩ := List.filter_eq_append_iff.1 e
  obtain ⟨m1, m2, e3, e4, e5, e6⟩ := List.filter_eq_cons_iff.1 e2
  have hxn : x.2.1 < n := by simpa using e5
  have e7 : l = (l1 ++ m1) ++ x :: m2 := by rw [e0, e3]; simp
  have h9 := h _ x m2 e7 (fun y hy hyx => by
    have : y ∈ r := by rw [← e6]; exact List.mem_filter.2 ⟨hy, by simp; omega⟩
    exact hr y this hyx)
  rw [List.getElem?_take_of_lt hxn]
  exact h9
theorem redo_gen (now : List ByteArray) : ∀ (l : List (Nat × Nat × ByteArray)) (a : List ByteArray), a.length = now.length → (∀ p, (∀ y ∈ l, y.2.1 ≠ p) → a[p]? = now[p]?) → LastOk l now → l.foldl (fun n x => n.set x.2.1 x.2.2) a = now
  | [], a, hl, h, _ => List.ext_getElem? fun p => h p (fun y hy => by simp at hy)
  | x :: r, a, hl, h, hL => by
    rw [List.foldl_cons]
    refine redo_gen now r (a.set x.2.1 x.2.2) (by rw [List.length_set]; exact hl) (fun p hp => ?_) (fun b y s e hs => hL (x :: b) y s (by rw [e]; rfl) hs)
    by_cases e : x.2.1 = p
    · subst e
      have h9 := hL [] x r rfl hp
      have hlt := (List.getElem?_eq_some_iff.1 h9).1
      rw [List.getElem?_set_self (by omega), h9]
    · rw [List.getElem?_set_ne e]
      exact h p fun y hy => by
        rcases List.mem_cons.1 hy with rfl | q
        · exact e
        · exact hp y q
theorem redo_same {A : AF} (h : LastOk A.ws A.now) : A.redo = A := by
  unfold AF.redo
  rw [redo_gen A.now A.ws A.now rfl (fun _ _ => rfl) h]

theorem wr_keep (ws : List RW) (id fr id' : Nat) : wrM (ws.filter (keepW id fr)) id' = if id' = id then (wrM ws id).filter (fun x => decide (x.2.1 < fr)) else wrM ws id' := by
  unfold wrM
  rw [List.filter_filter]
  by_cases h : id' = id
  · subst h
    rw [if_pos rfl, List.filter_map, List.filter_filter]
    congr 1
    apply List.filter_congr
    intro x _
    unfold keepW
    by_cases hx : x.file = id'
    · simp [hx]
    · simp [hx]
  · rw [if_neg h]
    congr 1
    apply List.filter_congr
    intro x _
    unfold keepW
    by_cases hx : x.file = id'
    · have : x.file ≠ id := fun e => h (hx.symm.trans e)
      simp [hx, h]
    · simp [hx]
theorem wr_snoc (ws : List RW) (t id i : Nat) (d : ByteArray) (id' : Nat) : wrM (ws ++ [⟨t, id, i, d⟩]) id' = if id' = id then wrM ws id ++ [(t, i, d)] else wrM ws id' := by
  unfold wrM
  rw [List.filter_append, List.map_append]
  by_cases h : id' = id
  · subst h
    rw [if_pos rfl]
    simp
  · have : id ≠ id' := fun e => h e.symm
    rw [if_neg h]
    simp [this]
/-- one file is another, with other writes -/
theorem absW_set {ws ws' : List RW} {fs : List MF} {i : Nat} {f f' : MF} (hf : fs[i]? = some f) (hids : (fs.map (·.id)).Nodup) (ho : ∀ id, id ≠ f.id → wrM ws' id = wrM ws id) : absW ws' (fs.set i f') = (absW ws fs).set i (nmM f'.name, afM ws' f') := by
  apply List.ext_getElem?
  intro j
  unfold absW
  rw [List.getElem?_map, List.getElem?_set, List.getElem?_set, List.getElem?_map, List.length_map]
  by_cases e : i = j
  · subst e
    have hl := (List.getElem?_eq_some_iff.1 hf).1
    rw [if_pos rfl, if_pos rfl, if_pos hl, if_pos hl]
    rfl
  · rw [if_neg e, if_neg e]
    cases hg : fs[j]? with
    | none => rfl
    | some g =>
      have hne : g.id ≠ f.id := fun e2 => e (by
        have h1 : (fs.map (·.id))[i]? = some f.id := by rw [List.getElem?_map, hf]; rfl
        have h2 : (fs.map (·.id))[j]? = some f.id := by rw [List.getElem?_map, hg, ← e2]; rfl
        exact (List.getElem?_inj (by rw [List.length_map]; exact (List.getElem?_eq_some_iff.1 hf).1) hids).1 (h1.trans h2.symm))
      show some (nmM g.name, afM ws' g) = some (nmM g.name, afM ws g)
      unfold afM
      rw [ho g.id hne]
theorem absW_erase {ws ws' : List RW} {fs : List MF} {i : Nat} {f : MF} (hf : fs[i]? = some f) (hids : (fs.map (·.id)).Nodup) (ho : ∀ id, id ≠ f.id → wrM ws' id = wrM ws id) : absW ws' (fs.eraseIdx i) = (absW ws fs).eraseIdx i := by
  apply List.ext_getElem?
  intro j
  unfold absW
  rw [List.getElem?_map, List.getElem?_eraseIdx, List.getElem?_eraseIdx, List.getElem?_map, List.getElem?_map]
  have key : ∀ m, m ≠ i → (fs[m]?).map (fun f => (nmM f.name, afM ws' f)) = (fs[m]?).map (fun f => (nmM f.name, afM ws f)) := fun m hm => by
    cases hg : fs[m]? with
    | none => rfl
    | some g =>
      have hne : g.id ≠ f.id := fun e2 => hm (by
        have h1 : (fs.map (·.id))[i]? = some f.id := by rw [List.getElem?_map, hf]; rfl
        have h2 : (fs.map (·.id))[m]? = some f.id := by rw [List.getElem?_map, hg, ← e2]; rfl
        exact ((List.getElem?_inj (by rw [List.length_map]; exact (List.getElem?_eq_some_iff.1 hf).1) hids).1 (h1.trans h2.symm)).symm)
      show some (nmM g.name, afM ws' g) = some (nmM g.name, afM ws g)
      unfold afM
      rw [ho g.id hne]
  by_cases e : j < i
  · rw [if_pos e, if_pos e]; exact key j (by omega)
  · rw [if_neg e, if_neg e]; exact key (j + 1) (by omega)
section
variable {w w' : World} {d : Nat} {K K1 : Dk} {D D1 : RM} {ks : List Int}
theorem Eqv.step (h : Eqv K D ks) (ha : (absL K1.files).Perm (absM D1)) (hi : Inv D1 K1.turn) (e1 : K1.on = K.on ∧ K1.room = K.room ∧ K1.armed = K.armed ∧ K1.left = K.left ∧ K1.keep = K.keep) (e2 : D1.off = D.off ∧ D1.room = D.room ∧ D1.armed = D.armed ∧ D1.n = D.n) : Eqv K1 D1 ks := by
  obtain ⟨a1, a2, a3, a4, a5⟩ := e1
  obtain ⟨b1, b2, b3, b4⟩ := e2
  exact ⟨ha, by rw [b1, a1]; exact h.on, by rw [a2, b2]; exact h.room, by rw [a3, b3]; exact h.armed, by rw [a4, a5, b3, b4]; exact h.left, by rw [a4, a5, b3]; exact h.calm, by rw [b4]; exact h.nle, by rw [a5]; exact h.few, hi⟩
theorem Eqv.falls (h : Eqv K D ks) : (D.fallsB = true → K.armed = true ∧ ¬ 0 < K.left ∧ K.keep = ks) ∧ (D.fallsB = false → K.armed = false ∨ 0 < K.left) := by
  unfold RM.fallsB
  cases ha : D.armed with
  | false => exact ⟨fun q => by simp at q, fun _ => .inl (by rw [h.armed]; exact ha)⟩
  | true =>
    obtain ⟨l1, l2, l3⟩ := h.left ha
    refine ⟨fun q => ⟨by rw [h.armed]; exact ha, ?_, l2⟩, fun q => .inr ?_⟩
    · have : D.n = 0 := by simpa using q
      omega
    · have : D.n ≠ 0 := by simpa using q
      omega
theorem Inv.count {t : Nat} (h : Inv D t) : Inv D.count t := by
  obtain ⟨q1, q2, q3, q4, q5⟩ := count_fs D
  obtain ⟨p1, p2, p3, p4⟩ := count_more D
  exact ⟨by rw [q2]; exact h.turns, by rw [q2]; exact h.tmax, by rw [q2, q1]; exact h.own, by rw [q1]; exact h.ids, by rw [q1, p1]; exact h.idm, by rw [p1]; exact h.idt, by rw [q1, q2]; exact h.redo⟩
theorem Eqv.count (h : Eqv K D ks) (hf : D.fallsB = false) : Eqv (counted K) D.count ks := by
  obtain ⟨q1, q2, q3, q4, q5⟩ := count_fs D
  obtain ⟨p1, p2, p3, p4⟩ := count_more D
  have ht : (counted K).turn = K.turn := by unfold counted; split <;> rfl
  have hon : (counted K).on = K.on := by unfold counted; split <;> rfl
  have hro : (counted K).room = K.room := by unfold counted; split <;> rfl
  have har : (counted K).armed = K.armed := by unfold counted; split <;> rfl
  have hke : (counted K).keep = K.keep := by unfold counted; split <;> rfl
  have hn : D.count.n = if D.armed = true then D.n - 1 else D.n := by
    unfold RM.count
    cases ha : D.armed with
    | false => simp
    | true =>
      have : D.n ≠ 0 := by
        unfold RM.fallsB at hf
        rw [ha] at hf
        simpa using hf
      simp [this]
  have hl : (counted K).left = if K.armed = true then K.left - 1 else K.left := by unfold counted; split <;> rfl
  refine ⟨by rw [counted_files]; show (absL K.files).Perm (absW D.count.ws D.count.fs); rw [q1, q2]; exact h.abs, by rw [q3, hon]; exact h.on, by rw [hro, p2]; exact h.room, by rw [har, p4]; exact h.armed, ?_, ?_, ?_, by rw [hke]; exact h.few, by rw [ht]; exact h.inv.count⟩
  · intro ha
    rw [p4] at ha
    obtain ⟨l1, l2, l3⟩ := h.left ha
    have hnz : D.n ≠ 0 := by
      unfold RM.fallsB at hf
      rw [ha] at hf
      simpa using hf
    rw [hl, hn, if_pos (h.armed.trans ha), if_pos ha, l1]
    exact ⟨rfl, by rw [hke]; exact l2, by omega⟩
  · intro ha
    rw [p4] at ha
    obtain ⟨l1, l2⟩ := h.calm ha
    rw [hl, if_neg (by rw [h.armed, ha]; decide), hke]
    exact ⟨l1, l2⟩
  · rw [hn]
    have := h.nle
    split
    · omega
    · exact this
theorem mem_set_id {fs : List MF} {i : Nat} {f f' : MF} (hf : fs[i]? = some f) (hid : f'.id = f.id) : (fs.set i f').map (·.id) = fs.map (·.id) := by
  rw [List.map_set, hid]
  exact list_set_self (by rw [List.getElem?_map, hf]; rfl)
/-- a file is synced, cut, written: other sectors, some of its writes -/
theorem Inv.set {t t' : Nat} {i : Nat} {f f' : MF} {ws' : List RW} {u v : Value} (h : Inv D t) (hf : D.fs[i]? = some f) (hid : f'.id = f.id) (htt : t ≤ t') (h1 : ws'.Pairwise (fun x y => x.turn < y.turn)) (h2 : ∀ x ∈ ws', x.turn ≤ t') (h3 : ∀ x ∈ ws', x ∈ D.ws ∨ x.file = f.id) (ho : ∀ id, id ≠ f.id → wrM ws' id = wrM D.ws id) (hr : LastOk (wrM ws' f.id) f'.now) :
    Inv { D with lv := u, fs := D.fs.set i f', wv := v, ws := ws' } t' := by
  have hmem : ∀ g ∈ D.fs.set i f', g = f' ∨ (g ∈ D.fs ∧ g.id ≠ f.id) := fun g hg => by
    obtain ⟨j, hj⟩ := List.getElem?_of_mem hg
    rw [List.getElem?_set] at hj
    by_cases e : i = j
    · subst e
      rw [if_pos rfl, if_pos (List.getElem?_eq_some_iff.1 hf).1] at hj
      exact .inl (Option.some.inj hj).symm
    · rw [if_neg e] at hj
      refine .inr ⟨List.mem_of_getElem? hj, fun e2 => e ?_⟩
      have h1 : (D.fs.map (·.id))[i]? = some f.id := by rw [List.getElem?_map, hf]; rfl
      have h2 : (D.fs.map (·.id))[j]? = some f.id := by rw [List.getElem?_map, hj, ← e2]; rfl
      exact (List.getElem?_inj (by rw [List.length_map]; exact (List.getElem?_eq_some_iff.1 hf).1) h.ids).1 (h1.trans h2.symm)
  have hids := mem_set_id hf hid
  refine ⟨h1, h2, fun x hx => ?_, by rw [hids]; exact h.ids, fun g hg => ?_, Nat.le_trans h.idt htt, fun g hg => ?_⟩
  · have hx2 : x.file ∈ (D.fs.set i f').map (·.id) := by
      rw [hids]
      rcases h3 x hx with q | q
      · obtain ⟨g, hg, e⟩ := h.own x q
        exact List.mem_map.2 ⟨g, hg, e⟩
      · rw [q]; exact List.mem_map.2 ⟨f, List.mem_of_getElem? hf, rfl⟩
    obtain ⟨g, hg, e⟩ := List.mem_map.1 hx2
    exact ⟨g, hg, e⟩
  · rcases hmem g hg with rfl | ⟨q, _⟩
    · rw [hid]; exact h.idm f (List.mem_of_getElem? hf)
    · exact h.idm g q
  · rcases hmem g hg with rfl | ⟨q, q2⟩
    · rw [hid]; exact hr
    · show LastOk (wrM ws' g.id) g.now
      rw [ho g.id q2]
      exact h.redo g q
end

end Go.Proofs.YtaabepiddbnggaaGreat.P4

/-
  The program's disk beside the document's, part 4: Sync, Cut, Remove, Rename, Write.
-/
namespace Go.Proofs.YtaabepiddbnggaaGreat.P4
open Go Go.RowKit Go.Lib Go.Maps Go.ChangeMaps Go.MapKept Go.Proofs.YtaabepiddbnggaaGreat.P3

section
variable {w w' : World} {d : Nat} {K K1 : Dk} {D D1 : RM} {ks : List Int}
theorem set_perm {ws ws' : List RW} {fs : List MF} {i : Nat} {f f' : MF} (hn : ((absW ws fs).map (·.1)).Nodup) (hf : fs[i]? = some f) (hids : (fs.map (·.id)).Nodup) (ho : ∀ id, id ≠ f.id → wrM ws' id = wrM ws id) (hnm : f'.name = f.name) :
    (absW ws' (fs.set i f')).Perm ((nmM f.name, afM ws' f') :: restA (absW ws fs) (nmM f.name)) := by
  rw [absW_set hf hids ho, hnm]
  exact set_rest hn (absW_at hf)
theorem keep_mem {ws : List RW} {id fr : Nat} : ∀ x ∈ ws.filter (keepW id fr), x ∈ ws := fun _ hx => (List.mem_filter.1 hx).1
theorem keep_other {ws : List RW} {id fr : Nat} : ∀ id', id' ≠ id → wrM (ws.filter (keepW id fr)) id' = wrM ws id' := fun id' h => by rw [wr_keep, if_neg h]
theorem keep_mine {ws : List RW} {id fr : Nat} : wrM (ws.filter (keepW id fr)) id = (wrM ws id).filter (fun x => decide (x.2.1 < fr)) := by rw [wr_keep, if_pos rfl]
theorem Eqv.F_abs (h : Eqv K D ks) (hK : DiskAt w d K) {s : ByteArray} {i : Nat} {f : MF} {F : Fl} (hat : atN D.fs s = some i) (hi : D.fs[i]? = some f) (hF : getF K.files s.data.toList = some F) : F.abs = afM D.ws f := by
  obtain ⟨F', h1, h2⟩ := h.getSome hK hat hi
  rw [hF] at h1
  cases h1
  exact h2
theorem Eqv.sync (h : Eqv K D ks) (hK : DiskAt w d K) (hf0 : D.fallsB = false) {s : ByteArray} {i : Nat} {f : MF} {F : Fl} {u : Value} (hat : atN D.fs s = some i) (hi : D.fs[i]? = some f) (hF : getF K.files s.data.toList = some F) :
    Eqv { counted K with files := (s.data.toList, F.sync) :: restF K.files s.data.toList } (D.count.sync i f u) ks := by
  obtain ⟨q1, q2, q3, q4, q5⟩ := count_fs D
  have hnm := atN_name hat hi
  subst hnm
  have hc := h.count hf0
  have hci := hc.inv
  have hFa := h.F_abs hK hat hi hF
  have hi' : D.count.fs[i]? = some f := by rw [q1]; exact hi
  have hr : wrM (D.count.ws.filter (keepW f.id 0)) f.id = [] := by rw [keep_mine]; exact List.filter_eq_nil_iff.2 fun x _ => by simp
  refine hc.step (K1 := { counted K with files := (f.name.data.toList, F.sync) :: restF K.files f.name.data.toList }) ?_ ?_ ⟨rfl, rfl, rfl, rfl, rfl⟩ ⟨rfl, rfl, rfl, rfl⟩
  · show (absL ((f.name.data.toList, F.sync) :: restF K.files f.name.data.toList)).Perm (absW (D.count.ws.filter (keepW f.id 0)) (D.count.fs.set i _))
    have e1 : absL ((f.name.data.toList, F.sync) :: restF K.files f.name.data.toList) = (nmM f.name, F.abs.sync) :: restA (absL K.files) (nmM f.name) := by
      show (f.name.data.toList, F.sync.abs) :: absL (restF K.files f.name.data.toList) = _
      rw [Fl.sync_abs, rest_abs]
      rfl
    rw [e1]
    refine ((restA_perm h.abs (nmM f.name)).cons _).trans ?_
    have h9 := set_perm (ws := D.count.ws) (ws' := D.count.ws.filter (keepW f.id 0)) (f' := { f with safe := f.now, sv := f.nv, made := true }) (by rw [q1, q2]; exact h.nodup hK) hi' hci.ids keep_other rfl
    refine List.Perm.trans ?_ h9.symm
    have e2 : F.abs.sync = afM (D.count.ws.filter (keepW f.id 0)) { f with safe := f.now, sv := f.nv, made := true } := by
      rw [hFa]
      show (⟨f.now, f.now, true, []⟩ : AF) = ⟨f.now, f.now, true, wrM _ f.id⟩
      rw [hr]
    rw [e2, q1, q2]
  · exact hci.set hi' rfl (Nat.le_refl _) (hci.turns.filter _) (fun x hx => hci.tmax x (keep_mem x hx)) (fun x hx => .inl (keep_mem x hx)) keep_other (by rw [hr]; exact last_nil _)
theorem Eqv.cut (h : Eqv K D ks) (hK : DiskAt w d K) (hf0 : D.fallsB = false) {s : ByteArray} {i n : Nat} {f : MF} {F : Fl} {sl u v1 v2 : Value} (hat : atN D.fs s = some i) (hi : D.fs[i]? = some f) (hF : getF K.files s.data.toList = some F) :
    Eqv { counted K with files := (s.data.toList, F.cut sl n) :: restF K.files s.data.toList } { D.count with fs := D.fs.set i { f with now := f.now.take n, safe := f.safe.take n, nv := v1, sv := v2 }, wv := u, ws := D.ws.filter (keepW f.id n) } ks := by
  obtain ⟨q1, q2, q3, q4, q5⟩ := count_fs D
  have hnm := atN_name hat hi
  subst hnm
  have hc := h.count hf0
  have hci := hc.inv
  have hFa := h.F_abs hK hat hi hF
  have hi' : D.count.fs[i]? = some f := by rw [q1]; exact hi
  have hinv := hci.set (u := D.count.lv) (v := u) (f' := { f with now := f.now.take n, safe := f.safe.take n, nv := v1, sv := v2 }) (ws' := D.count.ws.filter (keepW f.id n)) hi' rfl (Nat.le_refl _) (hci.turns.filter _) (fun x hx => hci.tmax x (keep_mem x hx)) (fun x hx => .inl (keep_mem x hx)) keep_other (by rw [keep_mine]; exact last_cut (hci.redo f (List.mem_of_getElem? hi')) n)
  rw [q1, q2] at hinv
  refine hc.step (K1 := { counted K with files := (f.name.data.toList, F.cut sl n) :: restF K.files f.name.data.toList }) ?_ hinv ⟨rfl, rfl, rfl, rfl, rfl⟩ ⟨rfl, rfl, rfl, rfl⟩
  show (absL ((f.name.data.toList, F.cut sl n) :: restF K.files f.name.data.toList)).Perm (absW (D.ws.filter (keepW f.id n)) (D.fs.set i _))
  have e1 : absL ((f.name.data.toList, F.cut sl n) :: restF K.files f.name.data.toList) = (nmM f.name, F.abs.cut n) :: restA (absL K.files) (nmM f.name) := by
    show (f.name.data.toList, (F.cut sl n).abs) :: absL (restF K.files f.name.data.toList) = _
    rw [Fl.cut_abs, rest_abs]
    rfl
  rw [e1]
  refine ((restA_perm h.abs (nmM f.name)).cons _).trans ?_
  have h9 := set_perm (ws := D.ws) (ws' := D.ws.filter (keepW f.id n)) (f' := { f with now := f.now.take n, safe := f.safe.take n, nv := v1, sv := v2 }) (h.nodup hK) hi h.inv.ids keep_other rfl
  refine List.Perm.trans ?_ h9.symm
  have e2 : F.abs.cut n = afM (D.ws.filter (keepW f.id n)) { f with now := f.now.take n, safe := f.safe.take n, nv := v1, sv := v2 } := by
    rw [hFa]
    show (⟨f.now.take n, f.safe.take n, f.made, (wrM D.ws f.id).filter _⟩ : AF) = ⟨f.now.take n, f.safe.take n, f.made, wrM _ f.id⟩
    rw [keep_mine]
  rw [e2]
theorem Inv.rm {t : Nat} {i : Nat} {f : MF} {u v : Value} (h : Inv D t) (hf : D.fs[i]? = some f) : Inv (D.rm i f u v) t := by
  have hmem : ∀ g ∈ D.fs.eraseIdx i, g ∈ D.fs ∧ g.id ≠ f.id := fun g hg => by
    obtain ⟨j, hj⟩ := List.getElem?_of_mem hg
    rw [List.getElem?_eraseIdx] at hj
    have key : ∀ m, m ≠ i → D.fs[m]? = some g → g ∈ D.fs ∧ g.id ≠ f.id := fun m hm h2 => ⟨List.mem_of_getElem? h2, fun e2 => hm (by
      have h1 : (D.fs.map (·.id))[i]? = some f.id := by rw [List.getElem?_map, hf]; rfl
      have h3 : (D.fs.map (·.id))[m]? = some f.id := by rw [List.getElem?_map, h2, ← e2]; rfl
      exact ((List.getElem?_inj (by rw [List.length_map]; exact (List.getElem?_eq_some_iff.1 hf).1) h.ids).1 (h1.trans h3.symm)).symm)⟩
    by_cases e : j < i
    · rw [if_pos e] at hj; exact key j (by omega) hj
    · rw [if_neg e] at hj; exact key (j + 1) (by omega) hj
  refine ⟨h.turns.filter _, fun x hx => h.tmax x (keep_mem x hx), fun x hx => ?_, ?_, fun g hg => h.idm g (hmem g hg).1, h.idt, fun g hg => ?_⟩
  · have hx' : x ∈ D.ws.filter (keepW f.id 0) := hx
    obtain ⟨h1, h2⟩ := List.mem_filter.1 hx'
    obtain ⟨g, hg, e⟩ := h.own x h1
    refine ⟨g, ?_, e⟩
    have hne : g ≠ f := fun e2 => by
      unfold keepW at h2
      rw [← e, e2] at h2
      simp at h2
    obtain ⟨j, hj⟩ := List.getElem?_of_mem hg
    have hji : j ≠ i := fun e2 => hne (by rw [e2, hf] at hj; exact (Option.some.inj hj).symm)
    show g ∈ D.fs.eraseIdx i
    by_cases e2 : j < i
    · exact List.mem_of_getElem? (i := j) (by rw [List.getElem?_eraseIdx, if_pos e2]; exact hj)
    · exact List.mem_of_getElem? (i := j - 1) (by rw [List.getElem?_eraseIdx, if_neg (by omega), show j - 1 + 1 = j from by omega]; exact hj)
  · show ((D.fs.eraseIdx i).map (·.id)).Nodup
    exact h.ids.sublist (List.Sublist.map _ (List.eraseIdx_sublist ..))
  · have hg' : g ∈ D.fs.eraseIdx i := hg
    obtain ⟨h1, h2⟩ := hmem g hg'
    show LastOk (wrM (D.ws.filter (keepW f.id 0)) g.id) g.now
    rw [keep_other g.id h2]
    exact h.redo g h1
theorem rm_abs {ws : List RW} {fs : List MF} {i : Nat} {f : MF} (hn : ((absW ws fs).map (·.1)).Nodup) (hids : (fs.map (·.id)).Nodup) (hf : fs[i]? = some f) : absW (ws.filter (keepW f.id 0)) (fs.eraseIdx i) = restA (absW ws fs) (nmM f.name) := by
  rw [absW_erase hf hids keep_other]
  exact erase_rest hn (absW_at hf)
theorem Eqv.remove (h : Eqv K D ks) (hK : DiskAt w d K) (hf0 : D.fallsB = false) {s : ByteArray} {i : Nat} {f : MF} {u v : Value} (hat : atN D.fs s = some i) (hi : D.fs[i]? = some f) :
    Eqv { counted K with files := restF K.files s.data.toList } (D.count.rm i f u v) ks := by
  obtain ⟨q1, q2, q3, q4, q5⟩ := count_fs D
  have hnm := atN_name hat hi
  subst hnm
  have hc := h.count hf0
  refine hc.step (K1 := { counted K with files := restF K.files f.name.data.toList }) ?_ (hc.inv.rm (by rw [q1]; exact hi)) ⟨rfl, rfl, rfl, rfl, rfl⟩ ⟨rfl, rfl, rfl, rfl⟩
  show (absL (restF K.files f.name.data.toList)).Perm (absW (D.count.ws.filter (keepW f.id 0)) (D.count.fs.eraseIdx i))
  rw [q1, q2, rm_abs (h.nodup hK) h.inv.ids hi, rest_abs]
  exact restA_perm h.abs _
theorem Inv.named {t : Nat} {i : Nat} {f : MF} {nm : ByteArray} (h : Inv D t) (hf : D.fs[i]? = some f) : Inv (D.named i f nm) t := by
  have := h.set (u := D.lv) (v := D.wv) (f' := { f with name := nm }) (ws' := D.ws) hf rfl (Nat.le_refl _) h.turns h.tmax (fun x hx => .inl hx) (fun _ _ => rfl) (h.redo f (List.mem_of_getElem? hf))
  exact this
theorem named_abs {ws : List RW} {fs : List MF} {i : Nat} {f : MF} (nm : ByteArray) (hn : ((absW ws fs).map (·.1)).Nodup) (hids : (fs.map (·.id)).Nodup) (hf : fs[i]? = some f) : (absW ws (fs.set i { f with name := nm })).Perm ((nmM nm, afM ws f) :: restA (absW ws fs) (nmM f.name)) := by
  rw [absW_set hf hids (fun _ _ => rfl)]
  have key : ∀ {A : AL} {i : Nat} {n n' : List UInt8} {a a' : AF}, (A.map (·.1)).Nodup → A[i]? = some (n, a) → (A.set i (n', a')).Perm ((n', a') :: restA A n) := by
    intro A
    induction A with
    | nil => intro i n n' a a' _ h; simp at h
    | cons p r ih =>
      intro i n n' a a' hn h
      cases i with
      | zero =>
        obtain rfl : p = (n, a) := by simpa using h
        have hno : restA r n = r := rest_self hn
        rw [List.set_cons_zero]
        unfold restA at hno ⊢
        rw [List.filter_cons_of_neg (by simp), hno]
      | succ i =>
        have h' : r[i]? = some (n, a) := by simpa using h
        have ih' := ih (n' := n') (a' := a') (List.nodup_cons.1 hn).2 h'
        have hne : p.1 ≠ n := name_ne hn h'
        rw [List.set_cons_succ]
        unfold restA at ih' ⊢
        rw [List.filter_cons_of_pos (by simpa using hne)]
        exact (ih'.cons p).trans (List.Perm.swap _ _ _)
  exact key hn (absW_at hf)
theorem rest_noneA {A : AL} {n : List UInt8} (h : getA A n = none) : restA A n = A := by
  refine List.filter_eq_self.2 fun p hp => ?_
  simp only [bne_iff_ne]
  intro e
  unfold getA at h
  have h9 : (A.find? (·.1 == n)) = none := by simpa using h
  have := List.find?_eq_none.1 h9 p hp
  simp [e] at this
theorem rest_comm (A : AL) (n m : List UInt8) : restA (restA A n) m = restA (restA A m) n := by
  unfold restA
  rw [List.filter_filter, List.filter_filter]
  apply List.filter_congr
  intro x _
  exact Bool.and_comm _ _
theorem rest_names {A : AL} (h : (A.map (·.1)).Nodup) (n : List UInt8) : ((restA A n).map (·.1)).Nodup := h.sublist (List.Sublist.map _ List.filter_sublist)
theorem get_rest_other {A : AL} {n m : List UInt8} (h : m ≠ n) : getA (restA A n) m = getA A m := getA_rest A h
theorem Eqv.renamed (h : Eqv K D ks) (hK : DiskAt w d K) (hf0 : D.fallsB = false) {s t : ByteArray} {i : Nat} {f : MF} {F : Fl} {D1 : RM} (hat : atN D.fs s = some i) (hi : D.fs[i]? = some f) (hF : getF K.files s.data.toList = some F)
    (hp : ((nmM t, afM D.ws f) :: restA (restA (absM D) (nmM s)) (nmM t)).Perm (absM D1)) (hinv : Inv D1 K.turn) (e2 : D1.off = D.count.off ∧ D1.room = D.count.room ∧ D1.armed = D.count.armed ∧ D1.n = D.count.n) :
    Eqv { counted K with files := renF K.files s.data.toList t.data.toList F } D1 ks := by
  have hc := h.count hf0
  have ht : (counted K).turn = K.turn := by unfold counted; split <;> rfl
  refine hc.step (K1 := { counted K with files := renF K.files s.data.toList t.data.toList F }) ?_ (by show Inv D1 (counted K).turn; rw [ht]; exact hinv) ⟨rfl, rfl, rfl, rfl, rfl⟩ e2
  show (absL (renF K.files s.data.toList t.data.toList F)).Perm _
  rw [ren_abs, h.F_abs hK hat hi hF]
  exact ((restA_perm (restA_perm h.abs _) _).cons _).trans hp
end

end Go.Proofs.YtaabepiddbnggaaGreat.P4
