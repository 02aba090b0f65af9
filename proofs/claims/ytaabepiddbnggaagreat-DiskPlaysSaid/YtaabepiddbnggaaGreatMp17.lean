/-
  Texts of the proof of SaidPlays, side by side: Ab1, Alive4, Dk32, Ab2.
-/
import Derived.Test.YtaabepiddbnggaaGreatMp16
/-
  A disk of one's own, as the document has it, that is not armed and has no bound: each call by a contract that names no block. (Disk, abstract, part 2.)
-/
namespace Go.Proofs.YtaabepiddbnggaaGreat.P4
open Go Go.RowKit Go.Lib Go.Maps Go.ChangeMaps Go.MapKept Go.Proofs.YtaabepiddbnggaaGreat.P3

/-- the disk at block d was made behind a, and nothing of a has changed -/
structure Lives (a w : World) (d : Nat) (K : Dk) (A : AL) : Prop where
  da : DA w d K A
  foot : ∀ k, K.foot d k → a.heap.size ≤ k
  fr : Below a.heap.size a w
theorem Lives.step {a w w' : World} {d : Nat} {K K' : Dk} {A A' : AL} (h : Lives a w d K A) (hs : Step w d K w' K') (hp : (absL K'.files).Perm A') : Lives a w' d K' A' := by
  refine ⟨⟨hs.at', hp⟩, fun k hk => ?_, Fr.new h.fr hs.fr h.foot⟩
  rcases hs.foot k hk with h1 | h1
  · exact h.foot k h1
  · exact Nat.le_trans h.fr.size h1
theorem Lives.below {a w w' : World} {d : Nat} {K : Dk} {A : AL} (h : Lives a w d K A) (hb : Below w.heap.size w w') : Lives a w' d K A := ⟨h.da.below hb, h.foot, h.fr.trans (hb.mono h.fr.size)⟩

/-- no bound, not armed -/
structure Calm (K : Dk) (on : Bool) (t : Nat) : Prop where
  on : K.on = on
  room : K.room ≤ 0
  armed : K.armed = false
  left : K.left = 0
  turn : K.turn = t
def QD (on : Bool) (a w : World) (d t : Nat) (A : AL) : Prop := ∃ K, Lives a w d K A ∧ Calm K on t
theorem QD.below {on : Bool} {a w w' : World} {d t : Nat} {A : AL} (h : QD on a w d t A) (hb : Below w.heap.size w w') : QD on a w' d t A := by
  obtain ⟨K, h1, h2⟩ := h
  exact ⟨K, h1.below hb, h2⟩
theorem QD.fr {on : Bool} {a w : World} {d t : Nat} {A : AL} (h : QD on a w d t A) : Below a.heap.size a w := by
  obtain ⟨K, h1, h2⟩ := h
  exact h1.fr
theorem qd_new (w : World) : Calls Tryz.prog 6 #[.int .i64 0] w fun e w' => e = .returned (.pointer (some ⟨w.heap.size, 0, none⟩)) ∧ QD true w w' w.heap.size 0 [] := by
  refine (new_disk w 0).mono ?_
  rintro e w' ⟨rfl, hb, hn⟩
  refine ⟨rfl, Dk.new 0, ⟨⟨new_at_disk hn, .refl _⟩, fun k hk => ?_, hb⟩, rfl, by decide, rfl, rfl, rfl⟩
  rcases hk with rfl | hk | ⟨p, hp, _⟩ | hk
  · exact Nat.le_refl _
  · cases hk
  · cases hp
  · cases hk
theorem count_free {w w' : World} {d : Nat} {K : Dk} {e : Ending} (hK : DiskAt w d K) (h : CountPost w d K e w') (ha : K.armed = false) : e = .returned (.int .i64 0) ∧ Step w d K w' K := by
  obtain ⟨n, K', rfl, hc⟩ := h
  cases hc with
  | free _ hb _ => exact ⟨rfl, .below hK hb⟩
  | less h1 _ _ => rw [ha] at h1; cases h1
  | falls h1 _ _ => rw [ha] at h1; cases h1
theorem errn_good {n : Nat} (h1 : 1 ≤ n) (h2 : n ≤ 40) : errn true n = 0 := by
  unfold errn
  rw [if_neg (by decide), if_neg (by omega)]
theorem Calm.full {K : Dk} {on : Bool} {t : Nat} (h : Calm K on t) : fullOf K = false := by
  have := h.room
  unfold fullOf
  rw [decide_eq_false (by omega), Bool.false_and]
/-- what Write makes of the files -/
def writeA (A : AL) (n : List UInt8) (t i : Nat) (data : ByteArray) : AL := (n, ((getA A n).getD ⟨[], [], false, []⟩).write t i data) :: restA A n
theorem QD.write {a w : World} {d t : Nat} {A : AL} (h : QD true a w d t A) (s : ByteArray) (i : Nat) (data : ByteArray) (h1 : 1 ≤ s.size) (h2 : s.size ≤ 40) (hd : data.size = 256) (hi : i ≤ sizeA A s.data.toList) (hi2 : i ≤ 4000) (hl : getA A s.data.toList = none → A.length < 60) (ht : t < 9000) :
    Calls Tryz.prog 18 #[.pointer (some ⟨d, 0, none⟩), .string s, .int .i64 i, .string data] w fun e w' => e = .returned (.int .i64 0) ∧ QD true a w' d (t + 1) (writeA A s.data.toList (t + 1) i data) := by
  obtain ⟨K, hL, hC⟩ := h
  have hlen : K.files.length = A.length := by rw [← hL.da.abs.length_eq]; simp [absL]
  have e0 : writeE K s i data.size = 0 := by
    unfold writeE
    rw [if_neg (by rw [hC.on, errn_good h1 h2]; decide), if_neg (by omega), hL.da.size, if_neg (by omega), if_neg (fun hx => by rw [hC.full] at hx; exact absurd hx.2 (by decide)),
      if_neg (fun hx => by have := hl ((hL.da.getNone _).1 hx.1); omega)]
  refine (hL.da.at'.write s i data (by unfold maxLen; omega) (by rw [hC.left]; decide) (by rw [hC.turn]; exact ht)).mono ?_
  rintro e w' (⟨hne, _⟩ | ⟨_, w1, K1, hst, hw, hcp⟩)
  · exact absurd e0 hne
  · have hsame := hw.same
    have habs := hw.abs hL.da
    obtain ⟨rfl, hst2⟩ := count_free hst.at' hcp (by rw [hsame]; exact hC.armed)
    rw [Int.toNat_natCast, hC.turn] at habs
    refine ⟨rfl, K1, hL.step (hst.trans hst2) habs, ?_⟩
    rw [hsame]
    exact ⟨hC.on, hC.room, hC.armed, hC.left, by show K.turn + 1 = _; rw [hC.turn]⟩
def crashA (A : AL) (ks : List Int) : AL := A.filterMap (crA (keptA A ks))
theorem QD.crash {a w : World} {d t : Nat} {A : AL} {v : Value} (h : QD true a w d t A) (ks : List Int) (hv : ∀ K, DiskAt w d K → Lives a w d K A → IntsR (K.wfoot d) w v ks) :
    Calls Tryz.prog 19 #[.pointer (some ⟨d, 0, none⟩), v] w fun e w' => e = .returned (.int .i64 (lostA (keptA A ks) A : Nat)) ∧ QD false a w' d t (crashA A ks) := by
  obtain ⟨K, hL, hC⟩ := h
  refine (crash_disk hL.da.at' hC.on (hv K hL.da.at' hL)).mono ?_
  rintro e w' ⟨n, K', rfl, hc⟩
  obtain ⟨rfl, hda⟩ := hc.absA hL.da
  refine ⟨rfl, K', hL.step hc.step hda.abs, ?_⟩
  rw [hc.eq]
  exact ⟨rfl, hC.room, rfl, rfl, hC.turn⟩
theorem QD.crash0 {a w : World} {d t : Nat} {A : AL} (h : QD true a w d t A) :
    Calls Tryz.prog 19 #[.pointer (some ⟨d, 0, none⟩), .slice none 0 0] w fun e w' => e = .returned (.int .i64 (lostA (keptA A []) A : Nat)) ∧ QD false a w' d t (crashA A []) :=
  h.crash [] (fun K _ _ => .inl ⟨none, 0, rfl, rfl⟩)
theorem QD.crash1 {a w : World} {d t : Nat} {A : AL} (h : QD true a w d t A) (x : Int) :
    Calls Tryz.prog 19 #[.pointer (some ⟨d, 0, none⟩), .slice (some ⟨w.heap.size, 0, none⟩) 1 1] (w.alloc (.cells #[.int .i64 x] 3)) fun e w' => e = .returned (.int .i64 (lostA (keptA A [x]) A : Nat)) ∧ QD false a w' d t (crashA A [x]) := by
  obtain ⟨K, hL, hC⟩ := h
  have h2 : Lives a (w.alloc (.cells #[.int .i64 x] 3)) d K A := hL.below (below_new w _)
  have hlt := hL.da.at'.foot_lt
  have hv : IntsR (K.wfoot d) (w.alloc (.cells #[.int .i64 x] 3)) (.slice (some ⟨w.heap.size, 0, none⟩) 1 1) [x] := .inr ⟨w.heap.size, 0, 1, rfl, by simp, fun hk => Nat.lt_irrefl _ (hlt _ (wfoot_foot hk)), fun j y hj => by
    rw [cell_at (new_at w _ _)]
    rcases j with _ | j
    · simpa using hj
    · simp at hj⟩
  refine (crash_disk h2.da.at' hC.on hv).mono ?_
  rintro e w' ⟨n, K', rfl, hc⟩
  obtain ⟨rfl, hda⟩ := hc.absA h2.da
  refine ⟨rfl, K', h2.step hc.step hda.abs, ?_⟩
  rw [hc.eq]
  exact ⟨rfl, hC.room, rfl, rfl, hC.turn⟩
theorem QD.restore {on : Bool} {a w : World} {d t : Nat} {A : AL} (h : QD on a w d t A) :
    Calls Tryz.prog 20 #[.pointer (some ⟨d, 0, none⟩)] w fun e w' => e = .returned (.tuple #[]) ∧ QD true a w' d t A := by
  obtain ⟨K, hL, hC⟩ := h
  refine hL.da.at'.restore.mono ?_
  rintro e w' ⟨rfl, hs⟩
  exact ⟨rfl, _, hL.step hs hL.da.abs, rfl, hC.room, hC.armed, hC.left, hC.turn⟩
theorem QD.on_ {on : Bool} {a w : World} {d t : Nat} {A : AL} (h : QD on a w d t A) :
    Calls Tryz.prog 23 #[.pointer (some ⟨d, 0, none⟩)] w fun e w' => e = .returned (.bool on) ∧ w = w' := by
  obtain ⟨K, hL, hC⟩ := h
  exact on_any w d on ((cell_at hL.da.at'.blk 1).trans (by rw [← hC.on]; rfl))
theorem QD.read {a w : World} {d t : Nat} {A : AL} (h : QD true a w d t A) (s : ByteArray) (i : Nat) (h1 : 1 ≤ s.size) (h2 : s.size ≤ 40) (hi : i < sizeA A s.data.toList) :
    Calls Tryz.prog 21 #[.pointer (some ⟨d, 0, none⟩), .string s, .int .i64 i] w fun e w' => e = .returned (.tuple #[.string (nowA (getA A s.data.toList) i), .int .i64 0]) ∧ QD true a w' d t A := by
  have h0 := h
  obtain ⟨K, hL, hC⟩ := h
  have hsz := hL.da.size s.data.toList
  have hF : errF K.on s.size (getF K.files s.data.toList) = 0 := by
    unfold errF
    rw [hC.on, errn_good h1 h2, if_pos rfl]
    cases hg : getF K.files s.data.toList with
    | none => unfold sizeN at hsz; rw [hg] at hsz; simp at hsz; omega
    | some F => rfl
  have e0 : readE K s i = 0 := by
    unfold readE
    rw [if_neg (by simpa using hF), hsz, if_neg (by omega)]
  have e1 : readT K s i = nowA (getA A s.data.toList) i := by
    unfold readT
    rw [if_neg (by simpa using e0), Int.toNat_natCast, hL.da.now]
  refine (hL.da.at'.read s i (by unfold maxLen; omega)).mono ?_
  rintro e w' ⟨rfl, hb⟩
  rw [e0, e1]
  exact ⟨rfl, h0.below hb⟩
theorem QD.sizeNone {a w : World} {d t : Nat} {A : AL} (h : QD true a w d t A) (s : ByteArray) (h1 : 1 ≤ s.size) (h2 : s.size ≤ 40) (hg : getA A s.data.toList = none) :
    Calls Tryz.prog 22 #[.pointer (some ⟨d, 0, none⟩), .string s] w fun e w' => e = .returned (.tuple #[.int .i64 0, .int .i64 8]) ∧ QD true a w' d t A := by
  have h0 := h
  obtain ⟨K, hL, hC⟩ := h
  have hg2 := (hL.da.getNone s.data.toList).2 hg
  refine (hL.da.at'.sizeOf s (by unfold maxLen; omega)).mono ?_
  rintro e w' ⟨rfl, hb⟩
  rw [hg2, hC.on]
  refine ⟨?_, h0.below hb⟩
  unfold sizeF errF
  rw [errn_good h1 h2, if_pos rfl, if_pos rfl]
  rfl
theorem QD.sizeSome {a w : World} {d t : Nat} {A : AL} (h : QD true a w d t A) (s : ByteArray) (h1 : 1 ≤ s.size) (h2 : s.size ≤ 40) {F : AF} (hg : getA A s.data.toList = some F) :
    Calls Tryz.prog 22 #[.pointer (some ⟨d, 0, none⟩), .string s] w fun e w' => e = .returned (.tuple #[.int .i64 (F.now.length : Nat), .int .i64 0]) ∧ QD true a w' d t A := by
  have h0 := h
  obtain ⟨K, hL, hC⟩ := h
  have hg2 := hL.da.get s.data.toList
  rw [hg] at hg2
  obtain ⟨G, hG, rfl⟩ := Option.map_eq_some_iff.1 hg2
  refine (hL.da.at'.sizeOf s (by unfold maxLen; omega)).mono ?_
  rintro e w' ⟨rfl, hb⟩
  rw [hG, hC.on]
  refine ⟨?_, h0.below hb⟩
  unfold sizeF errF
  rw [errn_good h1 h2, if_pos rfl, if_pos rfl]
  simp [Fl.abs]

end Go.Proofs.YtaabepiddbnggaaGreat.P4

/-
  The law's first call.
-/
namespace Go.Proofs.YtaabepiddbnggaaGreat.P4
open Go Go.RowKit Go.Lib Go.Maps Go.ChangeMaps Go.MapKept Go.Proofs.YtaabepiddbnggaaGreat.P3

theorem torn_all {x s : ByteArray} (hx : x.size = 256) (hs : s.size = 256) : torn 256 x s = x := by
  unfold torn
  have e1 : x.extract 0 256 = x := by rw [← hx]; exact ByteArray.extract_zero_size
  have e2 : s.extract 256 s.size = ByteArray.empty := by rw [hs]; exact ByteArray.extract_same
  rw [e1, e2, ByteArray.append_empty]
def sA : ByteArray := ⟨#[97]⟩
def sB : ByteArray := ⟨#[98]⟩
def al1 (x : ByteArray) : AL := [([97], ⟨[x], [], false, [(1, 0, x)]⟩)]
def al2 (x : ByteArray) : AL := [([97], ⟨[x], [x], true, []⟩)]
def al3 (x : ByteArray) : AL := [([98], ⟨[x], [], false, [(2, 0, x)]⟩), ([97], ⟨[x], [x], true, []⟩)]
theorem al_w1 (x : ByteArray) : writeA [] [97] 1 0 x = al1 x := rfl
theorem al_w2 (x : ByteArray) : writeA (al2 x) [98] 2 0 x = al3 x := rfl
theorem al_l1 (x : ByteArray) : lostA (keptA (al1 x) [256]) (al1 x) = 0 := rfl
theorem al_l2 (x : ByteArray) : lostA (keptA (al3 x) []) (al3 x) = 1 := rfl
theorem al_c1 (x : ByteArray) (hx : x.size = 256) : crashA (al1 x) [256] = al2 x := by
  have e : crashA (al1 x) [256] = [([97], ⟨[torn 256 x zeros], [torn 256 x zeros], true, []⟩)] := rfl
  rw [e, torn_all hx zeros_size]
  rfl
theorem al_c2 (x : ByteArray) : crashA (al3 x) [] = al2 x := rfl

theorem al_write1 {a w : World} {d : Nat} {x : ByteArray} (hx : x.size = 256) (h : QD true a w d 0 []) : Calls Tryz.prog 18 #[.pointer (some ⟨d, 0, none⟩), .string ⟨#[97]⟩, .int .i64 0, .string x] w fun e w' => e = .returned (.int .i64 0) ∧ QD true a w' d 1 (al1 x) :=
  h.write ⟨#[97]⟩ 0 x (by decide) (by decide) hx (Nat.zero_le _) (by omega) (fun _ => by decide) (by omega)
theorem al_write2 {a w : World} {d : Nat} {x : ByteArray} (hx : x.size = 256) (h : QD true a w d 1 (al2 x)) : Calls Tryz.prog 18 #[.pointer (some ⟨d, 0, none⟩), .string ⟨#[98]⟩, .int .i64 0, .string x] w fun e w' => e = .returned (.int .i64 0) ∧ QD true a w' d 2 (al3 x) :=
  h.write ⟨#[98]⟩ 0 x (by decide) (by decide) hx (Nat.zero_le _) (by omega) (fun _ => by show 1 < 60; decide) (by omega)
theorem al_crash1 {a w : World} {d : Nat} {x : ByteArray} (hx : x.size = 256) (h : QD true a w d 1 (al1 x)) : Calls Tryz.prog 19 #[.pointer (some ⟨d, 0, none⟩), .slice (some ⟨w.heap.size, 0, none⟩) 1 1] (w.alloc (.cells #[.int .i64 256] 3)) fun e w' => e = .returned (.int .i64 0) ∧ QD false a w' d 1 (al2 x) := by
  have H := h.crash1 256
  rw [al_l1, al_c1 x hx] at H
  exact H
theorem al_crash2 {a w : World} {d : Nat} {x : ByteArray} (h : QD true a w d 2 (al3 x)) : Calls Tryz.prog 19 #[.pointer (some ⟨d, 0, none⟩), .slice none 0 0] w fun e w' => e = .returned (.int .i64 1) ∧ QD false a w' d 2 (al2 x) := by
  have H := h.crash0
  rw [al_l2, al_c2 x] at H
  exact H
theorem al_read {a w : World} {d : Nat} {x : ByteArray} (h : QD true a w d 1 (al2 x)) : Calls Tryz.prog 21 #[.pointer (some ⟨d, 0, none⟩), .string ⟨#[97]⟩, .int .i64 0] w fun e w' => e = .returned (.tuple #[.string x, .int .i64 0]) ∧ QD true a w' d 1 (al2 x) :=
  h.read ⟨#[97]⟩ 0 (by decide) (by decide) (by show 0 < 1; decide)
theorem al_size {a w : World} {d : Nat} {x : ByteArray} (h : QD true a w d 2 (al2 x)) : Calls Tryz.prog 22 #[.pointer (some ⟨d, 0, none⟩), .string ⟨#[98]⟩] w fun e w' => e = .returned (.tuple #[.int .i64 0, .int .i64 8]) ∧ QD true a w' d 2 (al2 x) :=
  h.sizeNone ⟨#[98]⟩ (by decide) (by decide) rfl

set_option maxRecDepth 100000 in
theorem alive_any4 (w : World) : Calls Tryz.prog 5 #[] w fun e w' => e = .returned (.bool true) ∧ Below w.heap.size w w' := by
  obtain ⟨x, hx0⟩ : ∃ x, x = fillB ⟨#[120]⟩ := ⟨_, rfl⟩
  have hx : x.size = 256 := by rw [hx0]; exact fillB_size _
  have HF : Hid (∀ w, Calls Tryz.prog 17 #[.string ⟨#[120]⟩, .bool true] w fun e w' => e = .returned (.string x) ∧ Below w.heap.size w w') := fun w => by rw [hx0]; exact fill_own w _ (by decide)
  have HX := Lib.hid hx
  have HN := Lib.hid (fun w => qd_new w)
  have heq : (x.toList == x.toList) = true := beq_self_eq_true _
  clear hx0 hx
  go_enter Tryz.func5, Tryz.ntmps5
  go_wp2_with (first
    | (go_at_call 6; (with_reducible refine (HN.out _).mono ?_); rintro e w1 ⟨rfl, hq⟩; have HQ := Lib.hid hq; clear hq)
    | (go_at_call 17; (with_reducible refine (HF.out _).mono ?_); rintro e w2 ⟨rfl, hb⟩; have HQ := Lib.hid (HQ.out.below hb); clear hb)
    | (go_at_call 18; (with_reducible refine (al_write1 HX.out HQ.out).mono ?_); rintro e w3 ⟨rfl, hq⟩; have HQ := Lib.hid hq; clear hq)
    | (go_at_call 19; (with_reducible refine (al_crash1 HX.out HQ.out).mono ?_); rintro e w4 ⟨rfl, hq⟩; have HQ := Lib.hid hq; clear hq)
    | (go_at_call 20; (with_reducible refine (HQ.out.restore).mono ?_); rintro e w5 ⟨rfl, hq⟩; have HQ := Lib.hid hq; clear hq)
    | (go_at_call 21; (with_reducible refine (al_read HQ.out).mono ?_); rintro e w6 ⟨rfl, hq⟩; have HQ := Lib.hid hq; clear hq)
    | (go_at_call 18; (with_reducible refine (al_write2 HX.out HQ.out).mono ?_); rintro e w7 ⟨rfl, hq⟩; have HQ := Lib.hid hq; clear hq)
    | (go_at_call 19; (with_reducible refine (al_crash2 HQ.out).mono ?_); rintro e w8 ⟨rfl, hq⟩; have HQ := Lib.hid hq; clear hq)
    | (go_at_call 22; (with_reducible refine (al_size HQ.out).mono ?_); rintro e w9 ⟨rfl, hq⟩; have HQ := Lib.hid hq; clear hq)
    | (go_at_call 23; (with_reducible refine (HQ.out.on_).mono ?_); rintro e w10 ⟨rfl, rfl⟩))
  go_ret
  exact ⟨rfl, HQ.out.fr⟩

end Go.Proofs.YtaabepiddbnggaaGreat.P4

/-
  Package disk: a call that is counted; Sync. (Disk, part 32.)
-/
namespace Go.Proofs.YtaabepiddbnggaaGreat.P4
open Go Go.RowKit Go.Lib Go.Maps Go.ChangeMaps Go.MapKept Go.Proofs.YtaabepiddbnggaaGreat.P3

/-- the disk behind a call that was counted and told OK -/
def counted (K : Dk) : Dk := if K.armed = true then { K with left := K.left - 1 } else K
theorem DiskAt.count0 {w : World} {d : Nat} {K : Dk} (h : DiskAt w d K) (hon : K.on = true) (hl : K.left ≤ 9223372036854775807) (hk : K.armed = false ∨ 0 < K.left) :
    Calls Tryz.prog 92 #[.pointer (some ⟨d, 0, none⟩)] w fun e w' => e = .returned (.int .i64 0) ∧ Step w d K w' (counted K) := by
  refine (h.count hon hl).mono ?_
  rintro e w' ⟨n, K', rfl, hc⟩
  unfold counted
  cases hc with
  | free h1 hb _ => rw [h1, if_neg (by decide)]; exact ⟨rfl, .below h hb⟩
  | less h1 _ hs => rw [if_pos h1]; exact ⟨rfl, hs⟩
  | falls h1 h2 _ => rcases hk with hk | hk
                     · rw [hk] at h1; cases h1
                     · exact absurd hk h2
theorem DiskAt.count14 {w : World} {d : Nat} {K : Dk} (h : DiskAt w d K) (hon : K.on = true) (hl : K.left ≤ 9223372036854775807) (ha : K.armed = true) (hk : ¬ 0 < K.left) :
    Calls Tryz.prog 92 #[.pointer (some ⟨d, 0, none⟩)] w fun e w' => e = .returned (.int .i64 14) ∧ ∃ n K', Crashed w d K K.keep n K' w' := by
  refine (h.count hon hl).mono ?_
  rintro e w' ⟨n, K', rfl, hc⟩
  cases hc with
  | free h1 hb _ => rw [ha] at h1; cases h1
  | less _ h2 hs => exact absurd h2 hk
  | falls h1 h2 hcr => exact ⟨rfl, _, _, hcr⟩
theorem counted_files (K : Dk) : (counted K).files = K.files := by unfold counted; split <;> rfl
theorem DiskAt.synced {W w' : World} {d : Nat} {K : Dk} {n : List UInt8} {F : Fl} (h : DiskAt W d K) (hm : (n, F) ∈ K.files) (hF : FileAt w' F.sync) (hf : Fr F.foot W w') : Step W d K w' { K with files := (n, F.sync) :: restF K.files n } := by
  have hp := rest_perm h.files.names hm
  have hpa := allW_perm hp
  rw [allW_cons] at hpa
  have hl := hpa.length_eq
  rw [List.length_append] at hl
  have hmany := h.many.1
  have htn : ((allW (restF K.files n)).map (·.turn)).Nodup := by
    have := (hpa.map (·.turn)).nodup_iff.1 h.files.tnd
    rw [List.map_append] at this
    exact (List.nodup_append.1 this).2.1
  have hfoot : ∀ k, F.sync.foot k → F.foot k := by
    rintro k (hk | hk | ⟨x, hx, _⟩)
    · exact .inl hk
    · exact .inr (.inl hk)
    · cases hx
  obtain ⟨h1, h2⟩ := h.file hm hF hf rfl (fun k hk => .inl (hfoot k hk)) (F.sync_ok (h.files.ok _ hm)) (fun x hx => by cases hx) (fun x hx => by cases hx) (by exact htn) (by show 0 + _ ≤ _; omega)
  exact ⟨h1, h2, hf.mono (fun k _ hk => .inr (.inr (.inl ⟨_, hm, hk⟩)))⟩

theorem sync_err {w : World} {d : Nat} (s : ByteArray) (v : Value) (z : Int) (hz : (z != 0) = true) (H : Hid (Calls Tryz.prog 95 #[.pointer (some ⟨d, 0, none⟩), .string s] w fun e w' => e = .returned (.tuple #[v, .int .i64 z]) ∧ Below w.heap.size w w')) :
    Calls Tryz.prog 28 #[.pointer (some ⟨d, 0, none⟩), .string s] w fun e w' => e = .returned (.int .i64 z) ∧ Below w.heap.size w w' := by
  go_enter Tryz.func28, Tryz.ntmps28
  go_wp2_with (go_at_call 95; (with_reducible refine H.out.mono ?_); rintro e w' ⟨rfl, hb⟩; have HB := Lib.hid hb; clear hb)
  go_ret
  exact ⟨rfl, HB.out⟩
def FallPost (w : World) (d : Nat) (K : Dk) (e : Ending) (w' : World) : Prop := ∃ w1 n K', e = .returned (.int .i64 14) ∧ Below w.heap.size w w1 ∧ Crashed w1 d K K.keep n K' w'
theorem sync_falls {w : World} {d b : Nat} {K : Dk} (s : ByteArray) (H : Hid (Calls Tryz.prog 95 #[.pointer (some ⟨d, 0, none⟩), .string s] w fun e w' => e = .returned (.tuple #[.pointer (some ⟨b, 0, none⟩), .int .i64 0]) ∧ Below w.heap.size w w'))
    (HC : Hid (∀ W, Below w.heap.size w W → Calls Tryz.prog 92 #[.pointer (some ⟨d, 0, none⟩)] W fun e w' => e = .returned (.int .i64 14) ∧ ∃ n K', Crashed W d K K.keep n K' w')) :
    Calls Tryz.prog 28 #[.pointer (some ⟨d, 0, none⟩), .string s] w (FallPost w d K) := by
  go_enter Tryz.func28, Tryz.ntmps28
  go_wp2_with (first
    | (go_at_call 95; (with_reducible refine H.out.mono ?_); rintro e w1 ⟨rfl, hb⟩; have HB := Lib.hid hb; clear hb)
    | (go_at_call 92; (with_reducible refine (HC.out _ HB.out).mono ?_); rintro e w2 ⟨rfl, n, K', hcr⟩; have HR := Lib.hid hcr; clear hcr))
  go_ret
  exact ⟨_, n, K', rfl, HB.out, HR.out⟩
theorem sync_done {w : World} {d b : Nat} (s : ByteArray) (P : World → Prop) (Q : World → Prop) (H : Hid (Calls Tryz.prog 95 #[.pointer (some ⟨d, 0, none⟩), .string s] w fun e w' => e = .returned (.tuple #[.pointer (some ⟨b, 0, none⟩), .int .i64 0]) ∧ Below w.heap.size w w'))
    (HC : Hid (∀ W, Below w.heap.size w W → Calls Tryz.prog 92 #[.pointer (some ⟨d, 0, none⟩)] W fun e w' => e = .returned (.int .i64 0) ∧ P w'))
    (HS : Hid (∀ W, P W → Calls Tryz.prog 100 #[.pointer (some ⟨b, 0, none⟩)] W fun e w' => e = .returned (.tuple #[]) ∧ Q w')) :
    Calls Tryz.prog 28 #[.pointer (some ⟨d, 0, none⟩), .string s] w fun e w' => e = .returned (.int .i64 0) ∧ Q w' := by
  go_enter Tryz.func28, Tryz.ntmps28
  go_wp2_with (first
    | (go_at_call 95; (with_reducible refine H.out.mono ?_); rintro e w1 ⟨rfl, hb⟩; have HB := Lib.hid hb; clear hb)
    | (go_at_call 92; (with_reducible refine (HC.out _ HB.out).mono ?_); rintro e w2 ⟨rfl, hp⟩; have HP := Lib.hid hp; clear hp)
    | (go_at_call 100; (with_reducible refine (HS.out _ HP.out).mono ?_); rintro e w3 ⟨rfl, hq⟩; have HQ := Lib.hid hq; clear hq))
  go_ret
  exact ⟨rfl, HQ.out⟩

/-- Sync: an error; the power goes; or the file is safe -/
inductive SyncPost (w : World) (d : Nat) (K : Dk) (s : ByteArray) : Ending → World → Prop where
  | err {w'} : errF K.on s.size (getF K.files s.data.toList) ≠ 0 → Below w.heap.size w w' → SyncPost w d K s (.returned (.int .i64 (errF K.on s.size (getF K.files s.data.toList)))) w'
  | falls {w1 w' n K'} : errF K.on s.size (getF K.files s.data.toList) = 0 → K.armed = true → ¬ 0 < K.left → Below w.heap.size w w1 → Crashed w1 d K K.keep n K' w' → SyncPost w d K s (.returned (.int .i64 14)) w'
  | done {w' F} : errF K.on s.size (getF K.files s.data.toList) = 0 → (K.armed = false ∨ 0 < K.left) → getF K.files s.data.toList = some F → Step w d K w' { counted K with files := (s.data.toList, F.sync) :: restF K.files s.data.toList } → SyncPost w d K s (.returned (.int .i64 0)) w'
theorem DiskAt.sync {w : World} {d : Nat} {K : Dk} (h : DiskAt w d K) (s : ByteArray) (hs : s.size ≤ maxLen) (hl : K.left ≤ 9223372036854775807) :
    Calls Tryz.prog 28 #[.pointer (some ⟨d, 0, none⟩), .string s] w (SyncPost w d K s) := by
  have HF := h.find s hs
  by_cases he : errF K.on s.size (getF K.files s.data.toList) ≠ 0
  · obtain ⟨p, hp⟩ := ptr_shape (if errn K.on s.size = 0 then (getF K.files s.data.toList).map (·.b) else none)
    rw [hp] at HF
    refine (sync_err s _ _ (by simpa using he) HF).mono ?_
    rintro e w' ⟨rfl, hb⟩
    exact .err he hb
  · have he : errF K.on s.size (getF K.files s.data.toList) = 0 := Decidable.not_not.1 he
    obtain ⟨h0, F, hF⟩ := errF_zero he
    have hon := errn_on h0
    have he2 := he
    rw [he2, if_pos h0, hF] at HF
    have hm := getF_mem hF
    by_cases hk : K.armed = false ∨ 0 < K.left
    · refine (sync_done (b := F.b) s (fun W => Step w d K W (counted K)) (fun W => Step w d K W { counted K with files := (s.data.toList, F.sync) :: restF K.files s.data.toList }) HF
        (fun W hW => ((h.below hW).count0 hon hl hk).mono fun e w' hp => ⟨hp.1, (Step.below h hW).trans hp.2⟩) (fun W hW => ?_)).mono ?_
      · have hm2 : (s.data.toList, F) ∈ (counted K).files := by rw [counted_files]; exact hm
        refine ((hW.at'.files.at' _ hm2).sync (hW.at'.files.ok _ hm2)).mono ?_
        rintro e w' ⟨rfl, h1, h2⟩
        have := hW.at'.synced hm2 h1 h2
        rw [counted_files] at this
        exact ⟨rfl, hW.trans this⟩
      · rintro e w' ⟨rfl, hst⟩
        exact .done he hk hF hst
    · have ha : K.armed = true := by cases hx : K.armed with
        | true => rfl
        | false => exact absurd (.inl hx) hk
      refine (sync_falls (b := F.b) s HF (fun W hW => (h.below hW).count14 hon hl ha (fun hx => hk (.inr hx)))).mono ?_
      rintro e w' ⟨w1, n, K', rfl, hb, hc⟩
      exact .falls he ha (fun hx => hk (.inr hx)) hb hc

end Go.Proofs.YtaabepiddbnggaaGreat.P4

/-
  A disk of one's own, as the document has it, not armed: Sync, Dirty, Crash with a given list. (Disk, abstract, part 3.)
-/
namespace Go.Proofs.YtaabepiddbnggaaGreat.P4
open Go Go.RowKit Go.Lib Go.Maps Go.ChangeMaps Go.MapKept Go.Proofs.YtaabepiddbnggaaGreat.P3

/-- what Sync makes of the files -/
def syncA (A : AL) (n : List UInt8) (F : AF) : AL := (n, F.sync) :: restA A n
theorem DA.errF0 {w : World} {d : Nat} {K : Dk} {A : AL} (h : DA w d K A) (hon : K.on = true) (s : ByteArray) (h1 : 1 ≤ s.size) (h2 : s.size ≤ 40) {F : AF} (hg : getA A s.data.toList = some F) :
    ∃ G, getF K.files s.data.toList = some G ∧ G.abs = F ∧ errF K.on s.size (getF K.files s.data.toList) = 0 := by
  have hg2 := h.get s.data.toList
  rw [hg] at hg2
  obtain ⟨G, hG, he⟩ := Option.map_eq_some_iff.1 hg2
  refine ⟨G, hG, he, ?_⟩
  unfold errF
  rw [hon, errn_good h1 h2, if_pos rfl, hG]
theorem QD.sync {a w : World} {d t : Nat} {A : AL} (h : QD true a w d t A) (s : ByteArray) (h1 : 1 ≤ s.size) (h2 : s.size ≤ 40) {F : AF} (hg : getA A s.data.toList = some F) :
    Calls Tryz.prog 28 #[.pointer (some ⟨d, 0, none⟩), .string s] w fun e w' => e = .returned (.int .i64 0) ∧ QD true a w' d t (syncA A s.data.toList F) := by
  obtain ⟨K, hL, hC⟩ := h
  obtain ⟨G, hG, hGF, he⟩ := hL.da.errF0 hC.on s h1 h2 hg
  refine (hL.da.at'.sync s (by unfold maxLen; omega) (by rw [hC.left]; decide)).mono ?_
  intro e w' hp
  cases hp with
  | err hne _ => exact absurd he hne
  | falls _ ha _ _ _ => rw [hC.armed] at ha; cases ha
  | @done _ F2 _ _ hF hst =>
    rw [hG] at hF
    obtain rfl : G = F2 := by simpa using hF
    have hcK : counted K = K := by unfold counted; rw [if_neg (by rw [hC.armed]; decide)]
    rw [hcK] at hst
    refine ⟨rfl, _, hL.step hst ?_, hC.on, hC.room, hC.armed, hC.left, hC.turn⟩
    show (absP (s.data.toList, G.sync) :: absL (restF K.files s.data.toList)).Perm _
    unfold absP syncA
    rw [Fl.sync_abs, rest_abs, hGF]
    exact (restA_perm hL.da.abs _).cons _
/-- Crash with a list that is older than the disk -/
theorem QD.crashL {a w : World} {d t : Nat} {A : AL} {v : Value} (h : QD true a w d t A) (ks : List Int) (hv : IntsR (fun _ => False) a v ks) :
    Calls Tryz.prog 19 #[.pointer (some ⟨d, 0, none⟩), v] w fun e w' => e = .returned (.int .i64 (lostA (keptA A ks) A : Nat)) ∧ QD false a w' d t (crashA A ks) :=
  h.crash ks (fun K _ hL => by
    have h2 := hv.fr (Fr.of hL.fr)
    rcases hv with hv | ⟨g, o, c, rfl, hg, _, hc⟩
    · exact .inl hv
    · rcases h2 with h2 | ⟨g2, o2, c2, he, h4, _, h6⟩
      · exact .inl h2
      · obtain ⟨e1, e2⟩ : g = g2 ∧ o = o2 := by simp at he; exact ⟨he.1.1, he.1.2⟩
        subst e1 e2
        exact .inr ⟨g, o, c, rfl, h4, fun hk => by have := hL.foot g (wfoot_foot hk); omega, h6⟩)
theorem QD.dirty {a w : World} {d t : Nat} {on : Bool} {A : AL} (h : QD on a w d t A) :
    Calls Tryz.prog 46 #[.pointer (some ⟨d, 0, none⟩)] w fun e w' => e = .returned (.int .i64 ((wsA A).length : Nat)) ∧ QD on a w' d t A := by
  have h0 := h
  obtain ⟨K, hL, hC⟩ := h
  have e : (allW K.files).length = (wsA A).length := by rw [← (wsA_perm hL.da.abs).length_eq, wsA_abs, List.length_map]
  refine hL.da.at'.dirty.mono ?_
  rintro e' w' ⟨rfl, hb⟩
  rw [← e]
  exact ⟨rfl, h0.below hb⟩

end Go.Proofs.YtaabepiddbnggaaGreat.P4
