/-
  A disk of one's own, as the document has it, that is not armed and has no bound: each call by a contract that names no block. (Disk, abstract, part 2.)
-/
import Derived.Test.YtlgloikhdbmgdaaAb0
namespace Go.Proofs.Ytlgloikhdbmgdaa.P4
open Go Go.RowKit Go.Lib Go.Maps Go.ChangeMaps Go.MapKept Go.Proofs.Ytlgloikhdbmgdaa.P3

/-- the disk at block d was made behind a, and nothing of a has changed -/
structure Lives (a w : World) (d : Nat) (K : Dk) (A : AL) : Prop where
  da : DA w d K A
  foot : ∀ k, K.foot d k → a.heap.size ≤ k
  fr : Below a.heap.size a w
theorem Lives.step {a w w' : World} {d : Nat} {K K' : Dk} {A A' : AL} (h : Lives a w d K A) (hs : Step w d K w' K') (hp : (absL K'.files).Perm A') : Lives a w' d K' A' := by
  refine ⟨⟨hs.at', hp⟩, fun k hk => ?_, Fr.new h.fr hs.fr h.foot⟩
  rcases hs.foot k hk with h1 | h1
  · exact h.foot k h1
  · exact Nat.le_trans h.fr.size h1
theorem Lives.below {a w w' : World} {d : Nat} {K : Dk} {A : AL} (h : Lives a w d K A) (hb : Below w.heap.size w w') : Lives a w' d K A := ⟨h.da.below hb, h.foot, h.fr.trans (hb.mono h.fr.size)⟩

/-- no bound, not armed -/
structure Calm (K : Dk) (on : Bool) (t : Nat) : Prop where
  on : K.on = on
  room : K.room ≤ 0
  armed : K.armed = false
  left : K.left = 0
  turn : K.turn = t
def QD (on : Bool) (a w : World) (d t : Nat) (A : AL) : Prop := ∃ K, Lives a w d K A ∧ Calm K on t
theorem QD.below {on : Bool} {a w w' : World} {d t : Nat} {A : AL} (h : QD on a w d t A) (hb : Below w.heap.size w w') : QD on a w' d t A := by
  obtain ⟨K, h1, h2⟩ := h
  exact ⟨K, h1.below hb, h2⟩
theorem QD.fr {on : Bool} {a w : World} {d t : Nat} {A : AL} (h : QD on a w d t A) : Below a.heap.size a w := by
  obtain ⟨K, h1, h2⟩ := h
  exact h1.fr
theorem qd_new (w : World) : Calls Try.prog 9 #[.int .i64 0] w fun e w' => e = .returned (.pointer (some ⟨w.heap.size, 0, none⟩)) ∧ QD true w w' w.heap.size 0 [] := by
  refine (new_disk w 0).mono ?_
  rintro e w' ⟨rfl, hb, hn⟩
  refine ⟨rfl, Dk.new 0, ⟨⟨new_at_disk hn, .refl _⟩, fun k hk => ?_, hb⟩, rfl, by decide, rfl, rfl, rfl⟩
  rcases hk with rfl | hk | ⟨p, hp, _⟩ | hk
  · exact Nat.le_refl _
  · cases hk
  · cases hp
  · cases hk
theorem count_free {w w' : World} {d : Nat} {K : Dk} {e : Ending} (hK : DiskAt w d K) (h : CountPost w d K e w') (ha : K.armed = false) : e = .returned (.int .i64 0) ∧ Step w d K w' K := by
  obtain ⟨n, K', rfl, hc⟩ := h
  cases hc with
  | free _ hb _ => exact ⟨rfl, .below hK hb⟩
  | less h1 _ _ => rw [ha] at h1; cases h1
  | falls h1 _ _ => rw [ha] at h1; cases h1
theorem errn_good {n : Nat} (h1 : 1 ≤ n) (h2 : n ≤ 40) : errn true n = 0 := by
  unfold errn
  rw [if_neg (by decide), if_neg (by omega)]
theorem Calm.full {K : Dk} {on : Bool} {t : Nat} (h : Calm K on t) : fullOf K = false := by
  have := h.room
  unfold fullOf
  rw [decide_eq_false (by omega), Bool.false_and]
/-- what Write makes of the files -/
def writeA (A : AL) (n : List UInt8) (t i : Nat) (data : ByteArray) : AL := (n, ((getA A n).getD ⟨[], [], false, []⟩).write t i data) :: restA A n
theorem QD.write {a w : World} {d t : Nat} {A : AL} (h : QD true a w d t A) (s : ByteArray) (i : Nat) (data : ByteArray) (h1 : 1 ≤ s.size) (h2 : s.size ≤ 40) (hd : data.size = 256) (hi : i ≤ sizeA A s.data.toList) (hi2 : i ≤ 4000) (hl : getA A s.data.toList = none → A.length < 60) (ht : t < 9000) :
    Calls Try.prog 10 #[.pointer (some ⟨d, 0, none⟩), .string s, .int .i64 i, .string data] w fun e w' => e = .returned (.int .i64 0) ∧ QD true a w' d (t + 1) (writeA A s.data.toList (t + 1) i data) := by
  obtain ⟨K, hL, hC⟩ := h
  have hlen : K.files.length = A.length := by rw [← hL.da.abs.length_eq]; simp [absL]
  have e0 : writeE K s i data.size = 0 := by
    unfold writeE
    rw [if_neg (by rw [hC.on, errn_good h1 h2]; decide), if_neg (by omega), hL.da.size, if_neg (by omega), if_neg (fun hx => by rw [hC.full] at hx; exact absurd hx.2 (by decide)),
      if_neg (fun hx => by have := hl ((hL.da.getNone _).1 hx.1); omega)]
  refine (hL.da.at'.write s i data (by unfold maxLen; omega) (by rw [hC.left]; decide) (by rw [hC.turn]; exact ht)).mono ?_
  rintro e w' (⟨hne, _⟩ | ⟨_, w1, K1, hst, hw, hcp⟩)
  · exact absurd e0 hne
  · have hsame := hw.same
    have habs := hw.abs hL.da
    obtain ⟨rfl, hst2⟩ := count_free hst.at' hcp (by rw [hsame]; exact hC.armed)
    rw [Int.toNat_natCast, hC.turn] at habs
    refine ⟨rfl, K1, hL.step (hst.trans hst2) habs, ?_⟩
    rw [hsame]
    exact ⟨hC.on, hC.room, hC.armed, hC.left, by show K.turn + 1 = _; rw [hC.turn]⟩
def crashA (A : AL) (ks : List Int) : AL := A.filterMap (crA (keptA A ks))
theorem QD.crash {a w : World} {d t : Nat} {A : AL} {v : Value} (h : QD true a w d t A) (ks : List Int) (hv : ∀ K, DiskAt w d K → Lives a w d K A → IntsR (K.wfoot d) w v ks) :
    Calls Try.prog 13 #[.pointer (some ⟨d, 0, none⟩), v] w fun e w' => e = .returned (.int .i64 (lostA (keptA A ks) A : Nat)) ∧ QD false a w' d t (crashA A ks) := by
  obtain ⟨K, hL, hC⟩ := h
  refine (crash_disk hL.da.at' hC.on (hv K hL.da.at' hL)).mono ?_
  rintro e w' ⟨n, K', rfl, hc⟩
  obtain ⟨rfl, hda⟩ := hc.absA hL.da
  refine ⟨rfl, K', hL.step hc.step hda.abs, ?_⟩
  rw [hc.eq]
  exact ⟨rfl, hC.room, rfl, rfl, hC.turn⟩
theorem QD.crash0 {a w : World} {d t : Nat} {A : AL} (h : QD true a w d t A) :
    Calls Try.prog 13 #[.pointer (some ⟨d, 0, none⟩), .slice none 0 0] w fun e w' => e = .returned (.int .i64 (lostA (keptA A []) A : Nat)) ∧ QD false a w' d t (crashA A []) :=
  h.crash [] (fun K _ _ => .inl ⟨none, 0, rfl, rfl⟩)
theorem QD.crash1 {a w : World} {d t : Nat} {A : AL} (h : QD true a w d t A) (x : Int) :
    Calls Try.prog 13 #[.pointer (some ⟨d, 0, none⟩), .slice (some ⟨w.heap.size, 0, none⟩) 1 1] (w.alloc (.cells #[.int .i64 x] 3)) fun e w' => e = .returned (.int .i64 (lostA (keptA A [x]) A : Nat)) ∧ QD false a w' d t (crashA A [x]) := by
  obtain ⟨K, hL, hC⟩ := h
  have h2 : Lives a (w.alloc (.cells #[.int .i64 x] 3)) d K A := hL.below (below_new w _)
  have hlt := hL.da.at'.foot_lt
  have hv : IntsR (K.wfoot d) (w.alloc (.cells #[.int .i64 x] 3)) (.slice (some ⟨w.heap.size, 0, none⟩) 1 1) [x] := .inr ⟨w.heap.size, 0, 1, rfl, by simp, fun hk => Nat.lt_irrefl _ (hlt _ (wfoot_foot hk)), fun j y hj => by
    rw [cell_at (new_at w _ _)]
    rcases j with _ | j
    · simpa using hj
    · simp at hj⟩
  refine (crash_disk h2.da.at' hC.on hv).mono ?_
  rintro e w' ⟨n, K', rfl, hc⟩
  obtain ⟨rfl, hda⟩ := hc.absA h2.da
  refine ⟨rfl, K', h2.step hc.step hda.abs, ?_⟩
  rw [hc.eq]
  exact ⟨rfl, hC.room, rfl, rfl, hC.turn⟩
theorem QD.restore {on : Bool} {a w : World} {d t : Nat} {A : AL} (h : QD on a w d t A) :
    Calls Try.prog 14 #[.pointer (some ⟨d, 0, none⟩)] w fun e w' => e = .returned (.tuple #[]) ∧ QD true a w' d t A := by
  obtain ⟨K, hL, hC⟩ := h
  refine hL.da.at'.restore.mono ?_
  rintro e w' ⟨rfl, hs⟩
  exact ⟨rfl, _, hL.step hs hL.da.abs, rfl, hC.room, hC.armed, hC.left, hC.turn⟩
theorem QD.on_ {on : Bool} {a w : World} {d t : Nat} {A : AL} (h : QD on a w d t A) :
    Calls Try.prog 20 #[.pointer (some ⟨d, 0, none⟩)] w fun e w' => e = .returned (.bool on) ∧ w = w' := by
  obtain ⟨K, hL, hC⟩ := h
  exact on_any w d on ((cell_at hL.da.at'.blk 1).trans (by rw [← hC.on]; rfl))
theorem QD.read {a w : World} {d t : Nat} {A : AL} (h : QD true a w d t A) (s : ByteArray) (i : Nat) (h1 : 1 ≤ s.size) (h2 : s.size ≤ 40) (hi : i < sizeA A s.data.toList) :
    Calls Try.prog 16 #[.pointer (some ⟨d, 0, none⟩), .string s, .int .i64 i] w fun e w' => e = .returned (.tuple #[.string (nowA (getA A s.data.toList) i), .int .i64 0]) ∧ QD true a w' d t A := by
  have h0 := h
  obtain ⟨K, hL, hC⟩ := h
  have hsz := hL.da.size s.data.toList
  have hF : errF K.on s.size (getF K.files s.data.toList) = 0 := by
    unfold errF
    rw [hC.on, errn_good h1 h2, if_pos rfl]
    cases hg : getF K.files s.data.toList with
    | none => unfold sizeN at hsz; rw [hg] at hsz; simp at hsz; omega
    | some F => rfl
  have e0 : readE K s i = 0 := by
    unfold readE
    rw [if_neg (by simpa using hF), hsz, if_neg (by omega)]
  have e1 : readT K s i = nowA (getA A s.data.toList) i := by
    unfold readT
    rw [if_neg (by simpa using e0), Int.toNat_natCast, hL.da.now]
  refine (hL.da.at'.read s i (by unfold maxLen; omega)).mono ?_
  rintro e w' ⟨rfl, hb⟩
  rw [e0, e1]
  exact ⟨rfl, h0.below hb⟩
theorem QD.sizeNone {a w : World} {d t : Nat} {A : AL} (h : QD true a w d t A) (s : ByteArray) (h1 : 1 ≤ s.size) (h2 : s.size ≤ 40) (hg : getA A s.data.toList = none) :
    Calls Try.prog 15 #[.pointer (some ⟨d, 0, none⟩), .string s] w fun e w' => e = .returned (.tuple #[.int .i64 0, .int .i64 8]) ∧ QD true a w' d t A := by
  have h0 := h
  obtain ⟨K, hL, hC⟩ := h
  have hg2 := (hL.da.getNone s.data.toList).2 hg
  refine (hL.da.at'.sizeOf s (by unfold maxLen; omega)).mono ?_
  rintro e w' ⟨rfl, hb⟩
  rw [hg2, hC.on]
  refine ⟨?_, h0.below hb⟩
  unfold sizeF errF
  rw [errn_good h1 h2, if_pos rfl, if_pos rfl]
  rfl
theorem QD.sizeSome {a w : World} {d t : Nat} {A : AL} (h : QD true a w d t A) (s : ByteArray) (h1 : 1 ≤ s.size) (h2 : s.size ≤ 40) {F : AF} (hg : getA A s.data.toList = some F) :
    Calls Try.prog 15 #[.pointer (some ⟨d, 0, none⟩), .string s] w fun e w' => e = .returned (.tuple #[.int .i64 (F.now.length : Nat), .int .i64 0]) ∧ QD true a w' d t A := by
  have h0 := h
  obtain ⟨K, hL, hC⟩ := h
  have hg2 := hL.da.get s.data.toList
  rw [hg] at hg2
  obtain ⟨G, hG, rfl⟩ := Option.map_eq_some_iff.1 hg2
  refine (hL.da.at'.sizeOf s (by unfold maxLen; omega)).mono ?_
  rintro e w' ⟨rfl, hb⟩
  rw [hG, hC.on]
  refine ⟨?_, h0.below hb⟩
  unfold sizeF errF
  rw [errn_good h1 h2, if_pos rfl, if_pos rfl]
  simp [Fl.abs]

end Go.Proofs.Ytlgloikhdbmgdaa.P4
