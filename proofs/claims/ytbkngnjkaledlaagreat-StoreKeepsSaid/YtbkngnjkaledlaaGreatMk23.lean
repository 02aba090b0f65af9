/-
  Texts of the proof of SaidKeeps8, side by side: Ab0, Ab1, Alive4.
-/
import Derived.Test.YtbkngnjkaledlaaGreatMk22
/-
  A disk as the document has it: names and files; what a crash, a Write, a look make of it. No program. (Disk, abstract.)
-/
namespace Go.Proofs.YtbkngnjkaledlaaGreat.P4
open Go Go.RowKit Go.Lib Go.Maps Go.ChangeMaps Go.MapKept Go.Proofs.YtbkngnjkaledlaaGreat.P3

abbrev AL := List (List UInt8 × AF)
def absL (L : Files) : AL := L.map absP
def wsA (A : AL) : List (Nat × Nat × ByteArray) := A.flatMap (·.2.ws)
theorem wsA_abs (L : Files) : wsA (absL L) = (allW L).map Wr.abs := by
  unfold wsA absL allW
  rw [List.flatMap_map, List.map_flatMap]
  rfl
theorem wsA_perm {A B : AL} (h : A.Perm B) : (wsA A).Perm (wsA B) := h.flatMap_right _
def rankA (l : List (Nat × Nat × ByteArray)) (t : Nat) : Nat := (l.filter (fun x => decide (x.1 < t))).length
def keptA (A : AL) (ks : List Int) (t : Nat) : Nat := clampI (ks.getD (rankA (wsA A) t) 0)
theorem keptA_abs (L : Files) (ks : List Int) : keptOf (allW L) ks = keptA (absL L) ks := by
  funext t
  unfold keptOf keptA rankA rankW
  rw [wsA_abs, List.filter_map, List.length_map]
  rfl
theorem keptA_perm {A B : AL} (h : A.Perm B) (ks : List Int) : keptA A ks = keptA B ks := by
  funext t
  unfold keptA rankA
  rw [((wsA_perm h).filter _).length_eq]
def lostA (κ : Nat → Nat) (A : AL) : Nat := ((wsA A).filter (fun x => decide (κ x.1 < 256))).length
theorem lostA_abs (κ : Nat → Nat) (L : Files) : lostN κ (allW L) = lostA κ (absL L) := by
  unfold lostN lostA
  rw [wsA_abs, List.filter_map, List.length_map]
  rfl
theorem lostA_perm {A B : AL} (h : A.Perm B) (κ : Nat → Nat) : lostA κ A = lostA κ B := ((wsA_perm h).filter _).length_eq
def tripA (κ : Nat → Nat) (x : Nat × Nat × ByteArray) : Nat × Nat × ByteArray := (κ x.1, x.2.1, x.2.2)
/-- what a crash leaves of a file -/
def crA (κ : Nat → Nat) (p : List UInt8 × AF) : Option (List UInt8 × AF) :=
  if (p.2.made || decide (0 < (keepAll p.2.safe (p.2.ws.map (tripA κ))).length)) = true then some (p.1, p.2.crash (p.2.ws.map (tripA κ))) else none
theorem crP_mark {p : List UInt8 × Fl} (h : FileOk p.2) {κ : Nat → Nat} {T : List Nat} (hT : ∀ x ∈ p.2.ws, x.turn ∈ T) : crP (p.1, markF κ T p.2) = crA κ (absP p) := by
  have e1 : (markF κ T p.2).ws.map Wr.trip = p.2.abs.ws.map (tripA κ) := by
    show (p.2.ws.map (markW κ T)).map Wr.trip = (p.2.ws.map Wr.abs).map (tripA κ)
    rw [List.map_map, List.map_map]
    apply List.map_congr_left
    intro x hx
    show ((if x.turn ∈ T then κ x.turn else 0), x.pos, x.data) = _
    rw [if_pos (hT x hx)]
    rfl
  have e2 := (size_left (mark_ok κ T h)).2
  rw [e1] at e2
  unfold crP crA
  show (if ((markF κ T p.2).stays || decide (0 < (markF κ T p.2).left)) = true then _ else none) = _
  rw [e2, e1]
  rfl
theorem filterMap_same {α β : Type} {f g : α → Option β} : ∀ {l : List α}, (∀ x ∈ l, f x = g x) → l.filterMap f = l.filterMap g
  | [], _ => rfl
  | x :: r, h => by
    rw [List.filterMap_cons, List.filterMap_cons, h x (by simp), filterMap_same (fun y hy => h y (by simp [hy]))]
theorem crash_list {L : Files} (h : ∀ p ∈ L, FileOk p.2) (κ : Nat → Nat) : (markL κ ((allW L).map (·.turn)) L).filterMap crP = (absL L).filterMap (crA κ) := by
  unfold markL absL
  rw [List.filterMap_map, List.filterMap_map]
  apply filterMap_same
  intro p hp
  exact crP_mark (h p hp) (fun x hx => List.mem_map_of_mem (allW_mem.2 ⟨p, hp, hx⟩))

/-- the file of a name -/
def getA (A : AL) (n : List UInt8) : Option AF := (A.find? (·.1 == n)).map (·.2)
theorem getA_abs (L : Files) (n : List UInt8) : getA (absL L) n = (getF L n).map Fl.abs := by
  unfold getA getF absL
  rw [List.find?_map, Option.map_map, Option.map_map]
  rfl
theorem getA_mem {A : AL} {n : List UInt8} {F : AF} (h : getA A n = some F) : (n, F) ∈ A := by
  unfold getA at h
  obtain ⟨⟨n', F'⟩, h1, rfl⟩ := Option.map_eq_some_iff.1 h
  have h2 := List.mem_of_find?_eq_some h1
  have h3 := List.find?_some h1
  obtain rfl : n' = n := by simpa using h3
  exact h2
theorem getA_some : ∀ {A : AL} {n : List UInt8} {F : AF}, (A.map (·.1)).Nodup → (n, F) ∈ A → getA A n = some F
  | [], _, _, _, h => by simp at h
  | (m, G) :: r, n, F, hn, h => by
    unfold getA
    by_cases e : m = n
    · subst e
      rw [List.find?_cons_of_pos (by simp)]
      rcases List.mem_cons.1 h with h | h
      · cases h; rfl
      · exact absurd (List.mem_map_of_mem (f := (·.1)) h) (List.nodup_cons.1 hn).1
    · rw [List.find?_cons_of_neg (by simpa using e)]
      rcases List.mem_cons.1 h with h | h
      · cases h; exact absurd rfl e
      · exact getA_some (List.nodup_cons.1 hn).2 h
theorem getA_perm {A B : AL} (hn : (A.map (·.1)).Nodup) (hp : A.Perm B) (n : List UInt8) : getA A n = getA B n := by
  have hn2 : (B.map (·.1)).Nodup := (hp.map _).nodup_iff.1 hn
  cases h : getA B n with
  | some F => exact getA_some hn (hp.mem_iff.2 (getA_mem h))
  | none =>
    cases h2 : getA A n with
    | none => rfl
    | some F =>
      rw [getA_some hn2 (hp.mem_iff.1 (getA_mem h2))] at h
      cases h
def restA (A : AL) (n : List UInt8) : AL := A.filter (fun p => p.1 != n)
theorem rest_abs (L : Files) (n : List UInt8) : absL (restF L n) = restA (absL L) n := by
  unfold absL restF restA
  rw [List.filter_map]
  rfl
theorem restA_perm {A B : AL} (h : A.Perm B) (n : List UInt8) : (restA A n).Perm (restA B n) := h.filter _
def sizeA (A : AL) (n : List UInt8) : Nat := match getA A n with | none => 0 | some F => F.now.length
theorem size_abs (L : Files) (n : List UInt8) : sizeN L n = sizeA (absL L) n := by
  unfold sizeN sizeA
  rw [getA_abs]
  cases getF L n with
  | none => rfl
  | some F => simp [Fl.abs]
def nowA (o : Option AF) (i : Nat) : ByteArray := match o with | none => ⟨#[]⟩ | some F => F.now.getD i ⟨#[]⟩
theorem now_abs (L : Files) (n : List UInt8) (i : Nat) : nowOf (getF L n) i = nowA (getA (absL L) n) i := by
  rw [getA_abs]
  cases getF L n with
  | none => rfl
  | some F =>
    show (match F.secs[i]? with | none => _ | some x => x.now) = (F.secs.map (·.now)).getD i ⟨#[]⟩
    rw [List.getD_eq_getElem?_getD, List.getElem?_map]
    cases F.secs[i]? <;> rfl

/-- the disk at block d is, as the document has it, A -/
structure DA (w : World) (d : Nat) (K : Dk) (A : AL) : Prop where
  at' : DiskAt w d K
  abs : (absL K.files).Perm A
theorem absL_names (L : Files) : (absL L).map (·.1) = L.map (·.1) := by unfold absL; rw [List.map_map]; rfl
theorem DA.names {w : World} {d : Nat} {K : Dk} {A : AL} (h : DA w d K A) : (A.map (·.1)).Nodup := (h.abs.map _).nodup_iff.1 (by rw [absL_names]; exact h.at'.files.names)
theorem DA.get {w : World} {d : Nat} {K : Dk} {A : AL} (h : DA w d K A) (n : List UInt8) : (getF K.files n).map Fl.abs = getA A n := by
  rw [← getA_abs]
  exact getA_perm (by rw [absL_names]; exact h.at'.files.names) h.abs n
theorem DA.getNone {w : World} {d : Nat} {K : Dk} {A : AL} (h : DA w d K A) (n : List UInt8) : getF K.files n = none ↔ getA A n = none := by
  rw [← h.get]; simp
theorem DA.size {w : World} {d : Nat} {K : Dk} {A : AL} (h : DA w d K A) (n : List UInt8) : sizeN K.files n = sizeA A n := by
  unfold sizeA; rw [← h.get]; unfold sizeN
  cases getF K.files n with
  | none => rfl
  | some F => simp [Fl.abs]
theorem DA.now {w : World} {d : Nat} {K : Dk} {A : AL} (h : DA w d K A) (n : List UInt8) (i : Nat) : nowOf (getF K.files n) i = nowA (getA A n) i := by
  rw [now_abs, getA_abs, h.get]
theorem DA.below {w w' : World} {d : Nat} {K : Dk} {A : AL} (h : DA w d K A) (hb : Below w.heap.size w w') : DA w' d K A := ⟨h.at'.below hb, h.abs⟩
theorem Written.abs {w : World} {d : Nat} {K : Dk} {A : AL} (h : DA w d K A) {n : List UInt8} {i : Nat} {data : ByteArray} {K1 : Dk} (hw : Written K n i data K1) :
    (absL K1.files).Perm ((n, ((getA A n).getD ⟨[], [], false, []⟩).write (K.turn + 1) i data) :: restA A n) := by
  obtain ⟨m, sl, b, F, hF, rfl⟩ := hw
  have hok : FileOk F := by
    rcases hF with hF | ⟨_, b0, rfl⟩
    · exact h.at'.files.ok _ (getF_mem hF)
    · exact fresh_ok b0
  have he : (getA A n).getD ⟨[], [], false, []⟩ = F.abs := by
    rw [← h.get]
    rcases hF with hF | ⟨hF, b0, rfl⟩
    · rw [hF]; rfl
    · rw [hF]; rfl
  show (absP (n, F.write sl b (K.turn + 1) i data) :: absL (restF K.files n)).Perm _
  unfold absP
  rw [Fl.write_abs F hok, rest_abs, he]
  exact (restA_perm h.abs n).cons _
theorem Written.same {K K1 : Dk} {n : List UInt8} {i : Nat} {data : ByteArray} (hw : Written K n i data K1) : K1 = { K with m := K1.m, files := K1.files, turn := K.turn + 1 } := by
  obtain ⟨m, sl, b, F, hF, rfl⟩ := hw
  rfl
theorem Crashed.absA {w w' : World} {d : Nat} {K K' : Dk} {A : AL} {ks : List Int} {z : Int} (h : DA w d K A) (hc : Crashed w d K ks z K' w') : z = (lostA (keptA A ks) A : Nat) ∧ DA w' d K' (A.filterMap (crA (keptA A ks))) := by
  have e1 := hc.lost
  have e2 := hc.abs
  rw [keptA_abs, keptA_perm h.abs] at e1 e2
  rw [lostA_abs, lostA_perm h.abs] at e1
  rw [crash_list h.at'.files.ok] at e2
  exact ⟨e1, hc.at', e2.trans (h.abs.filterMap _)⟩

end Go.Proofs.YtbkngnjkaledlaaGreat.P4

/-
  A disk of one's own, as the document has it, that is not armed and has no bound: each call by a contract that names no block. (Disk, abstract, part 2.)
-/
namespace Go.Proofs.YtbkngnjkaledlaaGreat.P4
open Go Go.RowKit Go.Lib Go.Maps Go.ChangeMaps Go.MapKept Go.Proofs.YtbkngnjkaledlaaGreat.P3

/-- the disk at block d was made behind a, and nothing of a has changed -/
structure Lives (a w : World) (d : Nat) (K : Dk) (A : AL) : Prop where
  da : DA w d K A
  foot : ∀ k, K.foot d k → a.heap.size ≤ k
  fr : Below a.heap.size a w
theorem Lives.step {a w w' : World} {d : Nat} {K K' : Dk} {A A' : AL} (h : Lives a w d K A) (hs : Step w d K w' K') (hp : (absL K'.files).Perm A') : Lives a w' d K' A' := by
  refine ⟨⟨hs.at', hp⟩, fun k hk => ?_, Fr.new h.fr hs.fr h.foot⟩
  rcases hs.foot k hk with h1 | h1
  · exact h.foot k h1
  · exact Nat.le_trans h.fr.size h1
theorem Lives.below {a w w' : World} {d : Nat} {K : Dk} {A : AL} (h : Lives a w d K A) (hb : Below w.heap.size w w') : Lives a w' d K A := ⟨h.da.below hb, h.foot, h.fr.trans (hb.mono h.fr.size)⟩

/-- no bound, not armed -/
structure Calm (K : Dk) (on : Bool) (t : Nat) : Prop where
  on : K.on = on
  room : K.room ≤ 0
  armed : K.armed = false
  left : K.left = 0
  turn : K.turn = t
def QD (on : Bool) (a w : World) (d t : Nat) (A : AL) : Prop := ∃ K, Lives a w d K A ∧ Calm K on t
theorem QD.below {on : Bool} {a w w' : World} {d t : Nat} {A : AL} (h : QD on a w d t A) (hb : Below w.heap.size w w') : QD on a w' d t A := by
  obtain ⟨K, h1, h2⟩ := h
  exact ⟨K, h1.below hb, h2⟩
theorem QD.fr {on : Bool} {a w : World} {d t : Nat} {A : AL} (h : QD on a w d t A) : Below a.heap.size a w := by
  obtain ⟨K, h1, h2⟩ := h
  exact h1.fr
theorem qd_new (w : World) : Calls Tryz.prog 7 #[.int .i64 0] w fun e w' => e = .returned (.pointer (some ⟨w.heap.size, 0, none⟩)) ∧ QD true w w' w.heap.size 0 [] := by
  refine (new_disk w 0).mono ?_
  rintro e w' ⟨rfl, hb, hn⟩
  refine ⟨rfl, Dk.new 0, ⟨⟨new_at_disk hn, .refl _⟩, fun k hk => ?_, hb⟩, rfl, by decide, rfl, rfl, rfl⟩
  rcases hk with rfl | hk | ⟨p, hp, _⟩ | hk
  · exact Nat.le_refl _
  · cases hk
  · cases hp
  · cases hk
theorem count_free {w w' : World} {d : Nat} {K : Dk} {e : Ending} (hK : DiskAt w d K) (h : CountPost w d K e w') (ha : K.armed = false) : e = .returned (.int .i64 0) ∧ Step w d K w' K := by
  obtain ⟨n, K', rfl, hc⟩ := h
  cases hc with
  | free _ hb _ => exact ⟨rfl, .below hK hb⟩
  | less h1 _ _ => rw [ha] at h1; cases h1
  | falls h1 _ _ => rw [ha] at h1; cases h1
theorem errn_good {n : Nat} (h1 : 1 ≤ n) (h2 : n ≤ 40) : errn true n = 0 := by
  unfold errn
  rw [if_neg (by decide), if_neg (by omega)]
theorem Calm.full {K : Dk} {on : Bool} {t : Nat} (h : Calm K on t) : fullOf K = false := by
  have := h.room
  unfold fullOf
  rw [decide_eq_false (by omega), Bool.false_and]
/-- what Write makes of the files -/
def writeA (A : AL) (n : List UInt8) (t i : Nat) (data : ByteArray) : AL := (n, ((getA A n).getD ⟨[], [], false, []⟩).write t i data) :: restA A n
theorem QD.write {a w : World} {d t : Nat} {A : AL} (h : QD true a w d t A) (s : ByteArray) (i : Nat) (data : ByteArray) (h1 : 1 ≤ s.size) (h2 : s.size ≤ 40) (hd : data.size = 256) (hi : i ≤ sizeA A s.data.toList) (hi2 : i ≤ 4000) (hl : getA A s.data.toList = none → A.length < 60) (ht : t < 9000) :
    Calls Tryz.prog 41 #[.pointer (some ⟨d, 0, none⟩), .string s, .int .i64 i, .string data] w fun e w' => e = .returned (.int .i64 0) ∧ QD true a w' d (t + 1) (writeA A s.data.toList (t + 1) i data) := by
  obtain ⟨K, hL, hC⟩ := h
  have hlen : K.files.length = A.length := by rw [← hL.da.abs.length_eq]; simp [absL]
  have e0 : writeE K s i data.size = 0 := by
    unfold writeE
    rw [if_neg (by rw [hC.on, errn_good h1 h2]; decide), if_neg (by omega), hL.da.size, if_neg (by omega), if_neg (fun hx => by rw [hC.full] at hx; exact absurd hx.2 (by decide)),
      if_neg (fun hx => by have := hl ((hL.da.getNone _).1 hx.1); omega)]
  refine (hL.da.at'.write s i data (by unfold maxLen; omega) (by rw [hC.left]; decide) (by rw [hC.turn]; exact ht)).mono ?_
  rintro e w' (⟨hne, _⟩ | ⟨_, w1, K1, hst, hw, hcp⟩)
  · exact absurd e0 hne
  · have hsame := hw.same
    have habs := hw.abs hL.da
    obtain ⟨rfl, hst2⟩ := count_free hst.at' hcp (by rw [hsame]; exact hC.armed)
    rw [Int.toNat_natCast, hC.turn] at habs
    refine ⟨rfl, K1, hL.step (hst.trans hst2) habs, ?_⟩
    rw [hsame]
    exact ⟨hC.on, hC.room, hC.armed, hC.left, by show K.turn + 1 = _; rw [hC.turn]⟩
def crashA (A : AL) (ks : List Int) : AL := A.filterMap (crA (keptA A ks))
theorem QD.crash {a w : World} {d t : Nat} {A : AL} {v : Value} (h : QD true a w d t A) (ks : List Int) (hv : ∀ K, DiskAt w d K → Lives a w d K A → IntsR (K.wfoot d) w v ks) :
    Calls Tryz.prog 25 #[.pointer (some ⟨d, 0, none⟩), v] w fun e w' => e = .returned (.int .i64 (lostA (keptA A ks) A : Nat)) ∧ QD false a w' d t (crashA A ks) := by
  obtain ⟨K, hL, hC⟩ := h
  refine (crash_disk hL.da.at' hC.on (hv K hL.da.at' hL)).mono ?_
  rintro e w' ⟨n, K', rfl, hc⟩
  obtain ⟨rfl, hda⟩ := hc.absA hL.da
  refine ⟨rfl, K', hL.step hc.step hda.abs, ?_⟩
  rw [hc.eq]
  exact ⟨rfl, hC.room, rfl, rfl, hC.turn⟩
theorem QD.crash0 {a w : World} {d t : Nat} {A : AL} (h : QD true a w d t A) :
    Calls Tryz.prog 25 #[.pointer (some ⟨d, 0, none⟩), .slice none 0 0] w fun e w' => e = .returned (.int .i64 (lostA (keptA A []) A : Nat)) ∧ QD false a w' d t (crashA A []) :=
  h.crash [] (fun K _ _ => .inl ⟨none, 0, rfl, rfl⟩)
theorem QD.crash1 {a w : World} {d t : Nat} {A : AL} (h : QD true a w d t A) (x : Int) :
    Calls Tryz.prog 25 #[.pointer (some ⟨d, 0, none⟩), .slice (some ⟨w.heap.size, 0, none⟩) 1 1] (w.alloc (.cells #[.int .i64 x] 3)) fun e w' => e = .returned (.int .i64 (lostA (keptA A [x]) A : Nat)) ∧ QD false a w' d t (crashA A [x]) := by
  obtain ⟨K, hL, hC⟩ := h
  have h2 : Lives a (w.alloc (.cells #[.int .i64 x] 3)) d K A := hL.below (below_new w _)
  have hlt := hL.da.at'.foot_lt
  have hv : IntsR (K.wfoot d) (w.alloc (.cells #[.int .i64 x] 3)) (.slice (some ⟨w.heap.size, 0, none⟩) 1 1) [x] := .inr ⟨w.heap.size, 0, 1, rfl, by simp, fun hk => Nat.lt_irrefl _ (hlt _ (wfoot_foot hk)), fun j y hj => by
    rw [cell_at (new_at w _ _)]
    rcases j with _ | j
    · simpa using hj
    · simp at hj⟩
  refine (crash_disk h2.da.at' hC.on hv).mono ?_
  rintro e w' ⟨n, K', rfl, hc⟩
  obtain ⟨rfl, hda⟩ := hc.absA h2.da
  refine ⟨rfl, K', h2.step hc.step hda.abs, ?_⟩
  rw [hc.eq]
  exact ⟨rfl, hC.room, rfl, rfl, hC.turn⟩
theorem QD.restore {on : Bool} {a w : World} {d t : Nat} {A : AL} (h : QD on a w d t A) :
    Calls Tryz.prog 29 #[.pointer (some ⟨d, 0, none⟩)] w fun e w' => e = .returned (.tuple #[]) ∧ QD true a w' d t A := by
  obtain ⟨K, hL, hC⟩ := h
  refine hL.da.at'.restore.mono ?_
  rintro e w' ⟨rfl, hs⟩
  exact ⟨rfl, _, hL.step hs hL.da.abs, rfl, hC.room, hC.armed, hC.left, hC.turn⟩
theorem QD.on_ {on : Bool} {a w : World} {d t : Nat} {A : AL} (h : QD on a w d t A) :
    Calls Tryz.prog 31 #[.pointer (some ⟨d, 0, none⟩)] w fun e w' => e = .returned (.bool on) ∧ w = w' := by
  obtain ⟨K, hL, hC⟩ := h
  exact on_any w d on ((cell_at hL.da.at'.blk 1).trans (by rw [← hC.on]; rfl))
theorem QD.read {a w : World} {d t : Nat} {A : AL} (h : QD true a w d t A) (s : ByteArray) (i : Nat) (h1 : 1 ≤ s.size) (h2 : s.size ≤ 40) (hi : i < sizeA A s.data.toList) :
    Calls Tryz.prog 65 #[.pointer (some ⟨d, 0, none⟩), .string s, .int .i64 i] w fun e w' => e = .returned (.tuple #[.string (nowA (getA A s.data.toList) i), .int .i64 0]) ∧ QD true a w' d t A := by
  have h0 := h
  obtain ⟨K, hL, hC⟩ := h
  have hsz := hL.da.size s.data.toList
  have hF : errF K.on s.size (getF K.files s.data.toList) = 0 := by
    unfold errF
    rw [hC.on, errn_good h1 h2, if_pos rfl]
    cases hg : getF K.files s.data.toList with
    | none => unfold sizeN at hsz; rw [hg] at hsz; simp at hsz; omega
    | some F => rfl
  have e0 : readE K s i = 0 := by
    unfold readE
    rw [if_neg (by simpa using hF), hsz, if_neg (by omega)]
  have e1 : readT K s i = nowA (getA A s.data.toList) i := by
    unfold readT
    rw [if_neg (by simpa using e0), Int.toNat_natCast, hL.da.now]
  refine (hL.da.at'.read s i (by unfold maxLen; omega)).mono ?_
  rintro e w' ⟨rfl, hb⟩
  rw [e0, e1]
  exact ⟨rfl, h0.below hb⟩
theorem QD.sizeNone {a w : World} {d t : Nat} {A : AL} (h : QD true a w d t A) (s : ByteArray) (h1 : 1 ≤ s.size) (h2 : s.size ≤ 40) (hg : getA A s.data.toList = none) :
    Calls Tryz.prog 73 #[.pointer (some ⟨d, 0, none⟩), .string s] w fun e w' => e = .returned (.tuple #[.int .i64 0, .int .i64 8]) ∧ QD true a w' d t A := by
  have h0 := h
  obtain ⟨K, hL, hC⟩ := h
  have hg2 := (hL.da.getNone s.data.toList).2 hg
  refine (hL.da.at'.sizeOf s (by unfold maxLen; omega)).mono ?_
  rintro e w' ⟨rfl, hb⟩
  rw [hg2, hC.on]
  refine ⟨?_, h0.below hb⟩
  unfold sizeF errF
  rw [errn_good h1 h2, if_pos rfl, if_pos rfl]
  rfl
theorem QD.sizeSome {a w : World} {d t : Nat} {A : AL} (h : QD true a w d t A) (s : ByteArray) (h1 : 1 ≤ s.size) (h2 : s.size ≤ 40) {F : AF} (hg : getA A s.data.toList = some F) :
    Calls Tryz.prog 73 #[.pointer (some ⟨d, 0, none⟩), .string s] w fun e w' => e = .returned (.tuple #[.int .i64 (F.now.length : Nat), .int .i64 0]) ∧ QD true a w' d t A := by
  have h0 := h
  obtain ⟨K, hL, hC⟩ := h
  have hg2 := hL.da.get s.data.toList
  rw [hg] at hg2
  obtain ⟨G, hG, rfl⟩ := Option.map_eq_some_iff.1 hg2
  refine (hL.da.at'.sizeOf s (by unfold maxLen; omega)).mono ?_
  rintro e w' ⟨rfl, hb⟩
  rw [hG, hC.on]
  refine ⟨?_, h0.below hb⟩
  unfold sizeF errF
  rw [errn_good h1 h2, if_pos rfl, if_pos rfl]
  simp [Fl.abs]

end Go.Proofs.YtbkngnjkaledlaaGreat.P4

/-
  The law's first call.
-/
namespace Go.Proofs.YtbkngnjkaledlaaGreat.P4
open Go Go.RowKit Go.Lib Go.Maps Go.ChangeMaps Go.MapKept Go.Proofs.YtbkngnjkaledlaaGreat.P3

theorem torn_all {x s : ByteArray} (hx : x.size = 256) (hs : s.size = 256) : torn 256 x s = x := by
  unfold torn
  have e1 : x.extract 0 256 = x := by rw [← hx]; exact ByteArray.extract_zero_size
  have e2 : s.extract 256 s.size = ByteArray.empty := by rw [hs]; exact ByteArray.extract_same
  rw [e1, e2, ByteArray.append_empty]
def sA : ByteArray := ⟨#[97]⟩
def sB : ByteArray := ⟨#[98]⟩
def al1 (x : ByteArray) : AL := [([97], ⟨[x], [], false, [(1, 0, x)]⟩)]
def al2 (x : ByteArray) : AL := [([97], ⟨[x], [x], true, []⟩)]
def al3 (x : ByteArray) : AL := [([98], ⟨[x], [], false, [(2, 0, x)]⟩), ([97], ⟨[x], [x], true, []⟩)]
theorem al_w1 (x : ByteArray) : writeA [] [97] 1 0 x = al1 x := rfl
theorem al_w2 (x : ByteArray) : writeA (al2 x) [98] 2 0 x = al3 x := rfl
theorem al_l1 (x : ByteArray) : lostA (keptA (al1 x) [256]) (al1 x) = 0 := rfl
theorem al_l2 (x : ByteArray) : lostA (keptA (al3 x) []) (al3 x) = 1 := rfl
theorem al_c1 (x : ByteArray) (hx : x.size = 256) : crashA (al1 x) [256] = al2 x := by
  have e : crashA (al1 x) [256] = [([97], ⟨[torn 256 x zeros], [torn 256 x zeros], true, []⟩)] := rfl
  rw [e, torn_all hx zeros_size]
  rfl
theorem al_c2 (x : ByteArray) : crashA (al3 x) [] = al2 x := rfl

theorem al_write1 {a w : World} {d : Nat} {x : ByteArray} (hx : x.size = 256) (h : QD true a w d 0 []) : Calls Tryz.prog 41 #[.pointer (some ⟨d, 0, none⟩), .string ⟨#[97]⟩, .int .i64 0, .string x] w fun e w' => e = .returned (.int .i64 0) ∧ QD true a w' d 1 (al1 x) :=
  h.write ⟨#[97]⟩ 0 x (by decide) (by decide) hx (Nat.zero_le _) (by omega) (fun _ => by decide) (by omega)
theorem al_write2 {a w : World} {d : Nat} {x : ByteArray} (hx : x.size = 256) (h : QD true a w d 1 (al2 x)) : Calls Tryz.prog 41 #[.pointer (some ⟨d, 0, none⟩), .string ⟨#[98]⟩, .int .i64 0, .string x] w fun e w' => e = .returned (.int .i64 0) ∧ QD true a w' d 2 (al3 x) :=
  h.write ⟨#[98]⟩ 0 x (by decide) (by decide) hx (Nat.zero_le _) (by omega) (fun _ => by show 1 < 60; decide) (by omega)
theorem al_crash1 {a w : World} {d : Nat} {x : ByteArray} (hx : x.size = 256) (h : QD true a w d 1 (al1 x)) : Calls Tryz.prog 25 #[.pointer (some ⟨d, 0, none⟩), .slice (some ⟨w.heap.size, 0, none⟩) 1 1] (w.alloc (.cells #[.int .i64 256] 3)) fun e w' => e = .returned (.int .i64 0) ∧ QD false a w' d 1 (al2 x) := by
  have H := h.crash1 256
  rw [al_l1, al_c1 x hx] at H
  exact H
theorem al_crash2 {a w : World} {d : Nat} {x : ByteArray} (h : QD true a w d 2 (al3 x)) : Calls Tryz.prog 25 #[.pointer (some ⟨d, 0, none⟩), .slice none 0 0] w fun e w' => e = .returned (.int .i64 1) ∧ QD false a w' d 2 (al2 x) := by
  have H := h.crash0
  rw [al_l2, al_c2 x] at H
  exact H
theorem al_read {a w : World} {d : Nat} {x : ByteArray} (h : QD true a w d 1 (al2 x)) : Calls Tryz.prog 65 #[.pointer (some ⟨d, 0, none⟩), .string ⟨#[97]⟩, .int .i64 0] w fun e w' => e = .returned (.tuple #[.string x, .int .i64 0]) ∧ QD true a w' d 1 (al2 x) :=
  h.read ⟨#[97]⟩ 0 (by decide) (by decide) (by show 0 < 1; decide)
theorem al_size {a w : World} {d : Nat} {x : ByteArray} (h : QD true a w d 2 (al2 x)) : Calls Tryz.prog 73 #[.pointer (some ⟨d, 0, none⟩), .string ⟨#[98]⟩] w fun e w' => e = .returned (.tuple #[.int .i64 0, .int .i64 8]) ∧ QD true a w' d 2 (al2 x) :=
  h.sizeNone ⟨#[98]⟩ (by decide) (by decide) rfl

end Go.Proofs.YtbkngnjkaledlaaGreat.P4
