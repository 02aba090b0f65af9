/-
  A disk as the document has it: names and files; what a crash, a Write, a look make of it. No program. (Disk, abstract.)
-/
import Derived.Test.YtlgloikhdbmgdaaDk31
namespace Go.Proofs.Ytlgloikhdbmgdaa.P4
open Go Go.RowKit Go.Lib Go.Maps Go.ChangeMaps Go.MapKept Go.Proofs.Ytlgloikhdbmgdaa.P3

abbrev AL := List (List UInt8 × AF)
def absL (L : Files) : AL := L.map absP
def wsA (A : AL) : List (Nat × Nat × ByteArray) := A.flatMap (·.2.ws)
theorem wsA_abs (L : Files) : wsA (absL L) = (allW L).map Wr.abs := by
  unfold wsA absL allW
  rw [List.flatMap_map, List.map_flatMap]
  rfl
theorem wsA_perm {A B : AL} (h : A.Perm B) : (wsA A).Perm (wsA B) := h.flatMap_right _
def rankA (l : List (Nat × Nat × ByteArray)) (t : Nat) : Nat := (l.filter (fun x => decide (x.1 < t))).length
def keptA (A : AL) (ks : List Int) (t : Nat) : Nat := clampI (ks.getD (rankA (wsA A) t) 0)
theorem keptA_abs (L : Files) (ks : List Int) : keptOf (allW L) ks = keptA (absL L) ks := by
  funext t
  unfold keptOf keptA rankA rankW
  rw [wsA_abs, List.filter_map, List.length_map]
  rfl
theorem keptA_perm {A B : AL} (h : A.Perm B) (ks : List Int) : keptA A ks = keptA B ks := by
  funext t
  unfold keptA rankA
  rw [((wsA_perm h).filter _).length_eq]
def lostA (κ : Nat → Nat) (A : AL) : Nat := ((wsA A).filter (fun x => decide (κ x.1 < 256))).length
theorem lostA_abs (κ : Nat → Nat) (L : Files) : lostN κ (allW L) = lostA κ (absL L) := by
  unfold lostN lostA
  rw [wsA_abs, List.filter_map, List.length_map]
  rfl
theorem lostA_perm {A B : AL} (h : A.Perm B) (κ : Nat → Nat) : lostA κ A = lostA κ B := ((wsA_perm h).filter _).length_eq
def tripA (κ : Nat → Nat) (x : Nat × Nat × ByteArray) : Nat × Nat × ByteArray := (κ x.1, x.2.1, x.2.2)
/-- what a crash leaves of a file -/
def crA (κ : Nat → Nat) (p : List UInt8 × AF) : Option (List UInt8 × AF) :=
  if (p.2.made || decide (0 < (keepAll p.2.safe (p.2.ws.map (tripA κ))).length)) = true then some (p.1, p.2.crash (p.2.ws.map (tripA κ))) else none
theorem crP_mark {p : List UInt8 × Fl} (h : FileOk p.2) {κ : Nat → Nat} {T : List Nat} (hT : ∀ x ∈ p.2.ws, x.turn ∈ T) : crP (p.1, markF κ T p.2) = crA κ (absP p) := by
  have e1 : (markF κ T p.2).ws.map Wr.trip = p.2.abs.ws.map (tripA κ) := by
    show (p.2.ws.map (markW κ T)).map Wr.trip = (p.2.ws.map Wr.abs).map (tripA κ)
    rw [List.map_map, List.map_map]
    apply List.map_congr_left
    intro x hx
    show ((if x.turn ∈ T then κ x.turn else 0), x.pos, x.data) = _
    rw [if_pos (hT x hx)]
    rfl
  have e2 := (size_left (mark_ok κ T h)).2
  rw [e1] at e2
  unfold crP crA
  show (if ((markF κ T p.2).stays || decide (0 < (markF κ T p.2).left)) = true then _ else none) = _
  rw [e2, e1]
  rfl
theorem filterMap_same {α β : Type} {f g : α → Option β} : ∀ {l : List α}, (∀ x ∈ l, f x = g x) → l.filterMap f = l.filterMap g
  | [], _ => rfl
  | x :: r, h => by
    rw [List.filterMap_cons, List.filterMap_cons, h x (by simp), filterMap_same (fun y hy => h y (by simp [hy]))]
theorem crash_list {L : Files} (h : ∀ p ∈ L, FileOk p.2) (κ : Nat → Nat) : (markL κ ((allW L).map (·.turn)) L).filterMap crP = (absL L).filterMap (crA κ) := by
  unfold markL absL
  rw [List.filterMap_map, List.filterMap_map]
  apply filterMap_same
  intro p hp
  exact crP_mark (h p hp) (fun x hx => List.mem_map_of_mem (allW_mem.2 ⟨p, hp, hx⟩))

/-- the file of a name -/
def getA (A : AL) (n : List UInt8) : Option AF := (A.find? (·.1 == n)).map (·.2)
theorem getA_abs (L : Files) (n : List UInt8) : getA (absL L) n = (getF L n).map Fl.abs := by
  unfold getA getF absL
  rw [List.find?_map, Option.map_map, Option.map_map]
  rfl
theorem getA_mem {A : AL} {n : List UInt8} {F : AF} (h : getA A n = some F) : (n, F) ∈ A := by
  unfold getA at h
  obtain ⟨⟨n', F'⟩, h1, rfl⟩ := Option.map_eq_some_iff.1 h
  have h2 := List.mem_of_find?_eq_some h1
  have h3 := List.find?_some h1
  obtain rfl : n' = n := by simpa using h3
  exact h2
theorem getA_some : ∀ {A : AL} {n : List UInt8} {F : AF}, (A.map (·.1)).Nodup → (n, F) ∈ A → getA A n = some F
  | [], _, _, _, h => by simp at h
  | (m, G) :: r, n, F, hn, h => by
    unfold getA
    by_cases e : m = n
    · subst e
      rw [List.find?_cons_of_pos (by simp)]
      rcases List.mem_cons.1 h with h | h
      · cases h; rfl
      · exact absurd (List.mem_map_of_mem (f := (·.1)) h) (List.nodup_cons.1 hn).1
    · rw [List.find?_cons_of_neg (by simpa using e)]
      rcases List.mem_cons.1 h with h | h
      · cases h; exact absurd rfl e
      · exact getA_some (List.nodup_cons.1 hn).2 h
theorem getA_perm {A B : AL} (hn : (A.map (·.1)).Nodup) (hp : A.Perm B) (n : List UInt8) : getA A n = getA B n := by
  have hn2 : (B.map (·.1)).Nodup := (hp.map _).nodup_iff.1 hn
  cases h : getA B n with
  | some F => exact getA_some hn (hp.mem_iff.2 (getA_mem h))
  | none =>
    cases h2 : getA A n with
    | none => rfl
    | some F =>
      rw [getA_some hn2 (hp.mem_iff.1 (getA_mem h2))] at h
      cases h
def restA (A : AL) (n : List UInt8) : AL := A.filter (fun p => p.1 != n)
theorem rest_abs (L : Files) (n : List UInt8) : absL (restF L n) = restA (absL L) n := by
  unfold absL restF restA
  rw [List.filter_map]
  rfl
theorem restA_perm {A B : AL} (h : A.Perm B) (n : List UInt8) : (restA A n).Perm (restA B n) := h.filter _
def sizeA (A : AL) (n : List UInt8) : Nat := match getA A n with | none => 0 | some F => F.now.length
theorem size_abs (L : Files) (n : List UInt8) : sizeN L n = sizeA (absL L) n := by
  unfold sizeN sizeA
  rw [getA_abs]
  cases getF L n with
  | none => rfl
  | some F => simp [Fl.abs]
def nowA (o : Option AF) (i : Nat) : ByteArray := match o with | none => ⟨#[]⟩ | some F => F.now.getD i ⟨#[]⟩
theorem now_abs (L : Files) (n : List UInt8) (i : Nat) : nowOf (getF L n) i = nowA (getA (absL L) n) i := by
  rw [getA_abs]
  cases getF L n with
  | none => rfl
  | some F =>
    show (match F.secs[i]? with | none => _ | some x => x.now) = (F.secs.map (·.now)).getD i ⟨#[]⟩
    rw [List.getD_eq_getElem?_getD, List.getElem?_map]
    cases F.secs[i]? <;> rfl

/-- the disk at block d is, as the document has it, A -/
structure DA (w : World) (d : Nat) (K : Dk) (A : AL) : Prop where
  at' : DiskAt w d K
  abs : (absL K.files).Perm A
theorem absL_names (L : Files) : (absL L).map (·.1) = L.map (·.1) := by unfold absL; rw [List.map_map]; rfl
theorem DA.names {w : World} {d : Nat} {K : Dk} {A : AL} (h : DA w d K A) : (A.map (·.1)).Nodup := (h.abs.map _).nodup_iff.1 (by rw [absL_names]; exact h.at'.files.names)
theorem DA.get {w : World} {d : Nat} {K : Dk} {A : AL} (h : DA w d K A) (n : List UInt8) : (getF K.files n).map Fl.abs = getA A n := by
  rw [← getA_abs]
  exact getA_perm (by rw [absL_names]; exact h.at'.files.names) h.abs n
theorem DA.getNone {w : World} {d : Nat} {K : Dk} {A : AL} (h : DA w d K A) (n : List UInt8) : getF K.files n = none ↔ getA A n = none := by
  rw [← h.get]; simp
theorem DA.size {w : World} {d : Nat} {K : Dk} {A : AL} (h : DA w d K A) (n : List UInt8) : sizeN K.files n = sizeA A n := by
  unfold sizeA; rw [← h.get]; unfold sizeN
  cases getF K.files n with
  | none => rfl
  | some F => simp [Fl.abs]
theorem DA.now {w : World} {d : Nat} {K : Dk} {A : AL} (h : DA w d K A) (n : List UInt8) (i : Nat) : nowOf (getF K.files n) i = nowA (getA A n) i := by
  rw [now_abs, getA_abs, h.get]
theorem DA.below {w w' : World} {d : Nat} {K : Dk} {A : AL} (h : DA w d K A) (hb : Below w.heap.size w w') : DA w' d K A := ⟨h.at'.below hb, h.abs⟩
theorem Written.abs {w : World} {d : Nat} {K : Dk} {A : AL} (h : DA w d K A) {n : List UInt8} {i : Nat} {data : ByteArray} {K1 : Dk} (hw : Written K n i data K1) :
    (absL K1.files).Perm ((n, ((getA A n).getD ⟨[], [], false, []⟩).write (K.turn + 1) i data) :: restA A n) := by
  obtain ⟨m, sl, b, F, hF, rfl⟩ := hw
  have hok : FileOk F := by
    rcases hF with hF | ⟨_, b0, rfl⟩
    · exact h.at'.files.ok _ (getF_mem hF)
    · exact fresh_ok b0
  have he : (getA A n).getD ⟨[], [], false, []⟩ = F.abs := by
    rw [← h.get]
    rcases hF with hF | ⟨hF, b0, rfl⟩
    · rw [hF]; rfl
    · rw [hF]; rfl
  show (absP (n, F.write sl b (K.turn + 1) i data) :: absL (restF K.files n)).Perm _
  unfold absP
  rw [Fl.write_abs F hok, rest_abs, he]
  exact (restA_perm h.abs n).cons _
theorem Written.same {K K1 : Dk} {n : List UInt8} {i : Nat} {data : ByteArray} (hw : Written K n i data K1) : K1 = { K with m := K1.m, files := K1.files, turn := K.turn + 1 } := by
  obtain ⟨m, sl, b, F, hF, rfl⟩ := hw
  rfl
theorem Crashed.absA {w w' : World} {d : Nat} {K K' : Dk} {A : AL} {ks : List Int} {z : Int} (h : DA w d K A) (hc : Crashed w d K ks z K' w') : z = (lostA (keptA A ks) A : Nat) ∧ DA w' d K' (A.filterMap (crA (keptA A ks))) := by
  have e1 := hc.lost
  have e2 := hc.abs
  rw [keptA_abs, keptA_perm h.abs] at e1 e2
  rw [lostA_abs, lostA_perm h.abs] at e1
  rw [crash_list h.at'.files.ok] at e2
  exact ⟨e1, hc.at', e2.trans (h.abs.filterMap _)⟩

end Go.Proofs.Ytlgloikhdbmgdaa.P4
