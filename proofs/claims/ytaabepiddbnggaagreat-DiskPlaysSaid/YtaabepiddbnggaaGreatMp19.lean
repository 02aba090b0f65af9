/-
  Texts of the proof of SaidPlays, side by side: Ab3, Dk36, Ar0.
-/
import Derived.Test.YtaabepiddbnggaaGreatMp18
/-
  Package disk: Arm with any list; a disk that is armed, as the document has it: Write, Sync till the power goes, and behind it. (Disk, part 35.)
-/
namespace Go.Proofs.YtaabepiddbnggaaGreat.P4
open Go Go.RowKit Go.Lib Go.Maps Go.ChangeMaps Go.MapKept Go.Proofs.YtaabepiddbnggaaGreat.P3

theorem DiskAt.armG {w : World} {d : Nat} {K : Dk} (h : DiskAt w d K) (n : Int) (hn : 0 ≤ n) (v : Value) (ks : List Int)
    (HCl : ∀ w3, Only d w w3 → Calls Tryz.prog 24 #[v] w3 fun e W => ∃ v', e = .returned v' ∧ W.ownsRow w3.heap.size 3 1 v' ks.length (ivs ks) ∧ Below w3.heap.size w3 W) :
    Calls Tryz.prog 40 #[.pointer (some ⟨d, 0, none⟩), .int .i64 n, v] w (ArmPost w d K n ks) := by
  obtain ⟨w3, hw3⟩ : ∃ w3, w3 = ((w.setCell ⟨d, 4, none⟩ (.bool false)).setCell ⟨d, 5, none⟩ (.int .i64 0)).setCell ⟨d, 6, none⟩ (.slice none 0 0) := ⟨_, rfl⟩
  have ho3 : Only d w w3 := by rw [hw3]; exact (((Only.refl d w).setCell _ _).setCell _ _).setCell _ _
  have hs3 : w3.heap.size = w.heap.size := by rw [hw3]; simp [World.setCell]
  have hd := lt_of_block h.blk
  have hb3 : w3.heap[d]? = some (.cells (((K.cells.setIfInBounds 4 (.bool false)).setIfInBounds 5 (.int .i64 0)).setIfInBounds 6 (.slice none 0 0)) 67 (0, 0)) := by
    rw [hw3]; exact set_at (set_at (set_at h.blk 4 _) 5 _) 6 _
  have hcl := HCl w3 ho3
  have HB : ∀ W, Below w3.heap.size w3 W → W.heap[d]? = some (.cells (((K.cells.setIfInBounds 4 (.bool false)).setIfInBounds 5 (.int .i64 0)).setIfInBounds 6 (.slice none 0 0)) 67 (0, 0)) := fun W hW => old_below hb3 hW
  refine (arm_pos w d n _ _ _ _ (cell_at h.blk 4) (cell_at h.blk 5) (cell_at h.blk 6) (free_at h.blk 4) (free_at h.blk 5) (free_at h.blk 6) hn (fun W v' => Below w3.heap.size w3 W ∧ W.ownsRow w3.heap.size 3 1 v' ks.length (ivs ks)) ?_ ?_).mono ?_
  · rw [← hw3]
    refine hcl.mono ?_
    rintro e W ⟨v', rfl, h1, h3⟩
    obtain ⟨p, q, rfl⟩ := len_own h1
    exact ⟨p, _, q, rfl, h3, h1⟩
  · rintro W v' ⟨hW, _⟩
    have hB := HB W hW
    exact ⟨⟨_, cell_at hB 4⟩, ⟨_, cell_at hB 5⟩, ⟨_, cell_at hB 6⟩, free_at hB 4, free_at hB 5, free_at hB 6⟩
  · rintro e w' ⟨v', W, rfl, ⟨hW, hrow⟩, rfl⟩
    have hB := HB W hW
    have hoW : Only d W (((W.setCell ⟨d, 4, none⟩ (.bool true)).setCell ⟨d, 5, none⟩ (.int .i64 n)).setCell ⟨d, 6, none⟩ v') := (((Only.refl d W).setCell _ _).setCell _ _).setCell _ _
    have ho : Only d w (((W.setCell ⟨d, 4, none⟩ (.bool true)).setCell ⟨d, 5, none⟩ (.int .i64 n)).setCell ⟨d, 6, none⟩ v') := (ho3.trans (.of hW)).trans hoW
    have hlt : ∀ k, v'.ownBlock = some k → w.heap.size ≤ k := fun k hk => by have := (hrow.lt k hk).1; omega
    refine ⟨v', rfl, ⟨h.own ho (set_at (set_at (set_at hB 4 _) 5 _) 6 _) rfl rfl ?_ (Nat.le_refl _) h.many.2, ?_, .only ho (.inl rfl)⟩⟩
    · exact owns_fr (owns_zero hrow) (Fr.only (S := (· = d)) hoW rfl) (fun k hk e => by have := hlt k hk; omega)
    · rintro k (hk | hk | hk | hk)
      · exact .inl (.inl hk)
      · exact .inl (.inr (.inl hk))
      · exact .inl (.inr (.inr (.inl hk)))
      · exact .inr (hlt k hk)


theorem clone_nilI (w : World) : Calls Tryz.prog 24 #[.slice none 0 0] w fun r w' => r = .returned (.slice none 0 0) ∧ w = w' := by
  have k := Lib.run_eql_slice_nil (P := Tryz.prog) w 30 3 none 0 0 0 0 Tryz.underlying30
  go_enter Tryz.func24, Tryz.ntmps24
  go_wp2
  go_ret
  exact ⟨rfl, rfl⟩
theorem clone_odd (w : World) (a : Addr) (c : Nat) : Calls Tryz.prog 24 #[.slice (some a) 0 c] w fun r w' => ∃ v', r = .returned v' ∧ w'.ownsRow w.heap.size 3 1 v' 0 [] ∧ Below w.heap.size w w' := by
  have k := Lib.run_eql_slice_some_nil (P := Tryz.prog) w a 0 c Tryz.underlying30
  go_enter Tryz.func24, Tryz.ntmps24
  go_wp2
  go_ret
  exact ⟨_, rfl, ⟨rfl, .inr ⟨w.heap.size, 0, _, rfl, Nat.le_refl _, new_at w _ _, by simp, by simp, by simp, by simp⟩⟩, below_new w _⟩

/-- the list that is handed in, as Arm wants it -/
def KeepV (w : World) (v : Value) (ks : List Int) : Prop :=
  (v = .slice none 0 0 ∧ ks = []) ∨ (∃ a c, v = .slice (some a) 0 c ∧ ks = []) ∨ ∃ g o c, v = .slice (some ⟨g, o, none⟩) ks.length c ∧ g < w.heap.size ∧ ks.length * 8 ≤ 140737488355328 ∧ ∀ j, j < ks.length → w.cell? ⟨g, o + j, none⟩ = some (.int .i64 (ks.getD j 0))

/-- armed: lf calls more, then the power goes, and ks are kept -/
def QA (a w : World) (d t : Nat) (A : AL) (lf : Nat) (ks : List Int) : Prop := ∃ K, Lives a w d K A ∧ K.on = true ∧ K.room ≤ 0 ∧ K.armed = true ∧ K.left = (lf : Int) ∧ K.keep = ks ∧ K.turn = t
theorem QA.below {a w w' : World} {d t : Nat} {A : AL} {lf : Nat} {ks : List Int} (h : QA a w d t A lf ks) (hb : Below w.heap.size w w') : QA a w' d t A lf ks := by
  obtain ⟨K, h1, h2⟩ := h
  exact ⟨K, h1.below hb, h2⟩
theorem QA.fr {a w : World} {d t : Nat} {A : AL} {lf : Nat} {ks : List Int} (h : QA a w d t A lf ks) : Below a.heap.size a w := by
  obtain ⟨K, h1, h2⟩ := h
  exact h1.fr
theorem QD.arm {a w : World} {d t : Nat} {A : AL} {v : Value} (h : QD true a w d t A) (n : Nat) (ks : List Int) (hv : KeepV a v ks) :
    Calls Tryz.prog 40 #[.pointer (some ⟨d, 0, none⟩), .int .i64 n, v] w fun e w' => e = .returned (.tuple #[]) ∧ QA a w' d t A n ks := by
  obtain ⟨K, hL, hC⟩ := h
  have hdn : a.heap.size ≤ d := hL.foot d (.inl rfl)
  refine (hL.da.at'.armG n (by omega) v ks ?_).mono ?_
  · intro w3 ho
    rcases hv with ⟨rfl, rfl⟩ | ⟨a', c, rfl, rfl⟩ | ⟨g, o, c, rfl, hg, hl, hc⟩
    · exact (clone_nilI w3).mono fun e W ⟨h1, h2⟩ => ⟨_, h1, World.ownsRow_nil _ _ _ _, h2 ▸ Below.refl _ _⟩
    · exact clone_odd w3 a' c
    · refine (Tryz.slices_Clone_int g o ks.length c ks w3 (Nat.le_refl _) hl (fun j hj => ?_)).mono fun e W ⟨v', h1, h2, _, h4⟩ => ⟨v', h1, ?_, h4⟩
      · have hb : Below a.heap.size a w := hL.fr
        have h1 : w.cell? ⟨g, o + j, none⟩ = some (.int .i64 (ks.getD j 0)) := by rw [hb.cell (p := ⟨g, o + j, none⟩) hg]; exact hc j hj
        rw [← h1]
        exact (heap_ext (ho.block g (Nat.lt_of_lt_of_le hg hb.size) (by omega)) (o + j)).1
      · rw [List.take_length] at h2; exact h2
  · rintro e w' ⟨v', rfl, hst⟩
    exact ⟨rfl, _, hL.step hst hL.da.abs, hC.on, hC.room, rfl, rfl, rfl, hC.turn⟩

theorem errn_off (n : Nat) : errn false n = 14 := rfl
/-- without power -/
theorem QD.writeOff {a w : World} {d t : Nat} {A : AL} (h : QD false a w d t A) (s : ByteArray) (i : Int) (data : ByteArray) (hs : s.size ≤ maxLen) (ht : t < 9000) :
    Calls Tryz.prog 18 #[.pointer (some ⟨d, 0, none⟩), .string s, .int .i64 i, .string data] w fun e w' => e = .returned (.int .i64 14) ∧ QD false a w' d t A := by
  have h0 := h
  obtain ⟨K, hL, hC⟩ := h
  have e0 : writeE K s i data.size = 14 := by
    unfold writeE
    rw [hC.on, errn_off, if_pos (by decide)]
  refine (hL.da.at'.write s i data hs (by rw [hC.left]; decide) (by rw [hC.turn]; exact ht)).mono ?_
  rintro e w' (⟨_, rfl, hb⟩ | ⟨hz, _⟩)
  · rw [e0]; exact ⟨rfl, h0.below hb⟩
  · rw [e0] at hz; cases hz
theorem QD.syncOff {a w : World} {d t : Nat} {A : AL} (h : QD false a w d t A) (s : ByteArray) (hs : s.size ≤ maxLen) :
    Calls Tryz.prog 28 #[.pointer (some ⟨d, 0, none⟩), .string s] w fun e w' => e = .returned (.int .i64 14) ∧ QD false a w' d t A := by
  have h0 := h
  obtain ⟨K, hL, hC⟩ := h
  have e0 : errF K.on s.size (getF K.files s.data.toList) = 14 := by
    unfold errF
    rw [hC.on, errn_off, if_neg (by decide)]
  refine (hL.da.at'.sync s hs (by rw [hC.left]; decide)).mono ?_
  intro e w' hp
  cases hp with
  | err _ hb => rw [e0]; exact ⟨rfl, h0.below hb⟩
  | falls hz _ _ _ _ => rw [e0] at hz; cases hz
  | done hz _ _ _ => rw [e0] at hz; cases hz

theorem Crashed.qd {a w w' : World} {d t : Nat} {K K' : Dk} {A : AL} {ks : List Int} {z : Int} (h : Lives a w d K A) (hr : K.room ≤ 0) (ht : K.turn = t) (hc : Crashed w d K ks z K' w') : QD false a w' d t (crashA A ks) := by
  obtain ⟨_, hda⟩ := hc.absA h.da
  refine ⟨K', h.step hc.step hda.abs, ?_⟩
  rw [hc.eq]
  exact ⟨rfl, hr, rfl, rfl, ht⟩
theorem QA.writeE0 {K : Dk} {A : AL} {a w : World} {d : Nat} (hL : Lives a w d K A) (hon : K.on = true) (hroom : K.room ≤ 0) (s : ByteArray) (i : Nat) (data : ByteArray) (h1 : 1 ≤ s.size) (h2 : s.size ≤ 40) (hd : data.size = 256) (hi : i ≤ sizeA A s.data.toList) (hi2 : i ≤ 4000) (hl : getA A s.data.toList = none → A.length < 60) : writeE K s i data.size = 0 := by
  have hlen : K.files.length = A.length := by rw [← hL.da.abs.length_eq]; simp [absL]
  have hfull : fullOf K = false := by
    unfold fullOf
    rw [decide_eq_false (by omega), Bool.false_and]
  unfold writeE
  rw [if_neg (by rw [hon, errn_good h1 h2]; decide), if_neg (by omega), hL.da.size, if_neg (by omega), if_neg (fun hx => by rw [hfull] at hx; exact absurd hx.2 (by decide)),
    if_neg (fun hx => by have := hl ((hL.da.getNone _).1 hx.1); omega)]
/-- Write on an armed disk: told OK, and one call less; or the power goes behind it -/
theorem QA.write {a w : World} {d t : Nat} {A : AL} {lf : Nat} {ks : List Int} (h : QA a w d t A lf ks) (s : ByteArray) (i : Nat) (data : ByteArray) (h1 : 1 ≤ s.size) (h2 : s.size ≤ 40) (hd : data.size = 256) (hi : i ≤ sizeA A s.data.toList) (hi2 : i ≤ 4000) (hl : getA A s.data.toList = none → A.length < 60) (ht : t < 9000) (hlf : lf ≤ 1000000) :
    Calls Tryz.prog 18 #[.pointer (some ⟨d, 0, none⟩), .string s, .int .i64 i, .string data] w fun e w' =>
      (0 < lf ∧ e = .returned (.int .i64 0) ∧ QA a w' d (t + 1) (writeA A s.data.toList (t + 1) i data) (lf - 1) ks) ∨
      (lf = 0 ∧ e = .returned (.int .i64 14) ∧ QD false a w' d (t + 1) (crashA (writeA A s.data.toList (t + 1) i data) ks)) := by
  obtain ⟨K, hL, hon, hroom, harm, hleft, hkeep, hturn⟩ := h
  have e0 := QA.writeE0 hL hon hroom s i data h1 h2 hd hi hi2 hl
  refine (hL.da.at'.write s i data (by unfold maxLen; omega) (by rw [hleft]; omega) (by rw [hturn]; exact ht)).mono ?_
  rintro e w' (⟨hne, _⟩ | ⟨_, w1, K1, hst, hw, n, K2, rfl, hcp⟩)
  · exact absurd e0 hne
  · have hsame := hw.same
    have habs := hw.abs hL.da
    rw [Int.toNat_natCast, hturn] at habs
    have hL1 := hL.step hst habs
    have e1 : K1.on = true := by rw [hsame]; exact hon
    have e2 : K1.room ≤ 0 := by rw [hsame]; exact hroom
    have e3 : K1.armed = true := by rw [hsame]; exact harm
    have e4 : K1.left = (lf : Int) := by rw [hsame]; exact hleft
    have e5 : K1.keep = ks := by rw [hsame]; exact hkeep
    have e6 : K1.turn = t + 1 := by rw [hsame]; show K.turn + 1 = _; rw [hturn]
    clear hsame
    cases hcp with
    | free h3 _ _ => rw [e3] at h3; cases h3
    | less _ h4 hs2 =>
      refine .inl ⟨by omega, rfl, _, hL1.step hs2 hL1.da.abs, e1, e2, e3, ?_, e5, e6⟩
      show K1.left - 1 = _
      omega
    | falls _ h4 hcr =>
      refine .inr ⟨by omega, rfl, ?_⟩
      rw [← e5]
      exact hcr.qd hL1 e2 e6
theorem QA.sync {a w : World} {d t : Nat} {A : AL} {lf : Nat} {ks : List Int} (h : QA a w d t A lf ks) (s : ByteArray) (h1 : 1 ≤ s.size) (h2 : s.size ≤ 40) (hlf : lf ≤ 1000000) {F : AF} (hg : getA A s.data.toList = some F) :
    Calls Tryz.prog 28 #[.pointer (some ⟨d, 0, none⟩), .string s] w fun e w' =>
      (0 < lf ∧ e = .returned (.int .i64 0) ∧ QA a w' d t (syncA A s.data.toList F) (lf - 1) ks) ∨ (lf = 0 ∧ e = .returned (.int .i64 14) ∧ QD false a w' d t (crashA A ks)) := by
  obtain ⟨K, hL, hon, hroom, harm, hleft, hkeep, hturn⟩ := h
  obtain ⟨G, hG, hGF, he⟩ := hL.da.errF0 hon s h1 h2 hg
  refine (hL.da.at'.sync s (by unfold maxLen; omega) (by rw [hleft]; omega)).mono ?_
  intro e w' hp
  cases hp with
  | err hne _ => exact absurd he hne
  | falls _ _ h4 hb hcr =>
    refine .inr ⟨by omega, rfl, ?_⟩
    rw [← hkeep]
    exact hcr.qd (hL.below hb) hroom hturn
  | @done _ F2 _ h4 hF hst =>
    rw [hG] at hF
    obtain rfl : G = F2 := by simpa using hF
    have hcK : counted K = { K with left := K.left - 1 } := by unfold counted; rw [if_pos harm]
    rw [hcK] at hst
    have h5 : 0 < lf := by
      rcases h4 with h4 | h4
      · rw [harm] at h4; cases h4
      · omega
    refine .inl ⟨h5, rfl, _, hL.step hst ?_, hon, hroom, harm, ?_, hkeep, hturn⟩
    · show (absP (s.data.toList, G.sync) :: absL (restF K.files s.data.toList)).Perm _
      unfold absP syncA
      rw [Fl.sync_abs, rest_abs, hGF]
      exact (restA_perm hL.da.abs _).cons _
    · show K.left - 1 = _
      omega

/-- whatever it is armed for -/
def QX (on : Bool) (a w : World) (d : Nat) (A : AL) : Prop := ∃ K, Lives a w d K A ∧ K.on = on
theorem QD.x {on : Bool} {a w : World} {d t : Nat} {A : AL} (h : QD on a w d t A) : QX on a w d A := by
  obtain ⟨K, h1, h2⟩ := h
  exact ⟨K, h1, h2.on⟩
theorem QA.x {a w : World} {d t : Nat} {A : AL} {lf : Nat} {ks : List Int} (h : QA a w d t A lf ks) : QX true a w d A := by
  obtain ⟨K, h1, h2, _⟩ := h
  exact ⟨K, h1, h2⟩
theorem QX.fr {on : Bool} {a w : World} {d : Nat} {A : AL} (h : QX on a w d A) : Below a.heap.size a w := by
  obtain ⟨K, h1, _⟩ := h
  exact h1.fr
theorem QX.below {on : Bool} {a w w' : World} {d : Nat} {A : AL} (h : QX on a w d A) (hb : Below w.heap.size w w') : QX on a w' d A := by
  obtain ⟨K, h1, h2⟩ := h
  exact ⟨K, h1.below hb, h2⟩
theorem QX.restore {on : Bool} {a w : World} {d : Nat} {A : AL} (h : QX on a w d A) :
    Calls Tryz.prog 20 #[.pointer (some ⟨d, 0, none⟩)] w fun e w' => e = .returned (.tuple #[]) ∧ QX true a w' d A := by
  obtain ⟨K, hL, hC⟩ := h
  refine hL.da.at'.restore.mono ?_
  rintro e w' ⟨rfl, hs⟩
  exact ⟨rfl, _, hL.step hs hL.da.abs, rfl⟩
theorem QX.on_ {on : Bool} {a w : World} {d : Nat} {A : AL} (h : QX on a w d A) :
    Calls Tryz.prog 23 #[.pointer (some ⟨d, 0, none⟩)] w fun e w' => e = .returned (.bool on) ∧ w = w' := by
  obtain ⟨K, hL, hC⟩ := h
  exact on_any w d on ((cell_at hL.da.at'.blk 1).trans (by rw [← hC]; rfl))
theorem QX.size {a w : World} {d : Nat} {A : AL} (h : QX true a w d A) (s : ByteArray) (h1 : 1 ≤ s.size) (h2 : s.size ≤ 40) :
    Calls Tryz.prog 22 #[.pointer (some ⟨d, 0, none⟩), .string s] w fun e w' => e = .returned (.tuple #[.int .i64 (sizeA A s.data.toList : Nat), .int .i64 (if getA A s.data.toList = none then 8 else 0)]) ∧ QX true a w' d A := by
  have h0 := h
  obtain ⟨K, hL, hC⟩ := h
  refine (hL.da.at'.sizeOf s (by unfold maxLen; omega)).mono ?_
  rintro e w' ⟨rfl, hb⟩
  refine ⟨?_, h0.below hb⟩
  have hsz := hL.da.size s.data.toList
  have hn := hL.da.getNone s.data.toList
  rw [← hsz]
  unfold sizeF errF sizeN
  rw [hC, errn_good h1 h2, if_pos rfl, if_pos rfl]
  cases hg : getF K.files s.data.toList with
  | none => rw [if_pos (hn.1 hg)]
  | some F => rw [if_neg (fun e => by rw [hn.2 e] at hg; cases hg)]

end Go.Proofs.YtaabepiddbnggaaGreat.P4

/-
  Package disk: Rename of a file that is there, to a name that may be. (Disk, part 36.)
-/
namespace Go.Proofs.YtaabepiddbnggaaGreat.P4
open Go Go.RowKit Go.Lib Go.Maps Go.ChangeMaps Go.MapKept Go.Proofs.YtaabepiddbnggaaGreat.P3

set_option maxRecDepth 100000 in
theorem check2_ok (w : World) (d B : Nat) (s t : ByteArray) (c1 : w.cell? ⟨d, 1, none⟩ = some (.bool true)) (b0 : w.cell? ⟨B, 0, none⟩ = some (.string s)) (b1 : w.cell? ⟨B, 1, none⟩ = some (.string t)) (h1 : 1 ≤ s.size) (h2 : s.size ≤ 40) (g1 : 1 ≤ t.size) (g2 : t.size ≤ 40) :
    Calls Tryz.prog 86 #[.pointer (some ⟨d, 0, none⟩), .slice (some ⟨B, 0, none⟩) 2 2] w fun e w' => e = .returned (.int .i64 0) ∧ w = w' := by
  have H := Lib.hid (on_any w d true c1)
  have h3 : ¬ s.size < 1 := by omega
  have h4 : ¬ 40 < s.size := by omega
  have g3 : ¬ t.size < 1 := by omega
  have g4 : ¬ 40 < t.size := by omega
  go_enter Tryz.func86, Tryz.ntmps86
  go_wp2_with (go_at_call 23; (with_reducible refine H.out.mono ?_); rintro e w' ⟨rfl, rfl⟩)
  go_loop [12] (fun i => i = .int .i64 0 ∨ i = .int .i64 1 ∨ i = .int .i64 2) (fun i => (2 - intOf i).toNat)
  case atStart => exact .inl rfl
  case round =>
    rcases hrel with rfl | rfl | rfl
    · go_wp2
      go_round
      case rel => exact .inr (.inl rfl)
      case measure => simp [intOf]
    · go_wp2
      go_round
      case rel => exact .inr (.inr rfl)
      case measure => simp [intOf]
    · go_wp2
      go_ret
      exact ⟨rfl, rfl⟩

/-- the files behind a Rename -/
def renF (L : Files) (f t : List UInt8) (F : Fl) : Files := (t, F) :: restF (restF L f) t
theorem dir_rest (L : Files) (n : List UInt8) : dir (restF L n) = delL (dir L) n := by
  unfold dir restF delL
  rw [List.filter_map]
  rfl
theorem allW_sub : ∀ {L M : Files}, L.Sublist M → (allW L).Sublist (allW M)
  | _, _, .slnil => List.Sublist.refl _
  | _, _, .cons a h => (allW_sub h).trans (List.sublist_append_right _ _)
  | _, _, .cons_cons a h => List.Sublist.append_left (allW_sub h) _
theorem ren_dir (L : Files) (f t : List UInt8) (F : Fl) : (putL (delL (dir L) f) t F.b).Perm (dir (renF L f t F)) := by
  unfold renF putL
  rw [← dir_rest]
  show (delL (dir (restF L f)) t ++ [(t, F.b)]).Perm ((t, F.b) :: dir (restF (restF L f) t))
  rw [← dir_rest]
  exact List.perm_append_singleton _ _
theorem DiskAt.renamed {w w' : World} {d b : Nat} {K : Dk} {f t : List UInt8} {F : Fl} (h : DiskAt w d K) (hm : (f, F) ∈ K.files) (hb : K.m = some b) (ht : t.length ≤ 40) (hmap : MapAt w' (some b) (putL (delL (dir K.files) f) t F.b)) (ho : Only b w w') :
    Step w d K w' { K with files := renF K.files f t F } := by
  have hp := rest_perm h.files.names hm
  have hf : Fr (fun k => k = b) w w' := .only ho rfl
  have hdb : d ≠ b := fun e => h.mapNe (by rw [hb, e])
  have hs1 := rest_sub K.files f
  have hs2 := rest_sub (restF K.files f) t
  have hsub : ∀ p ∈ restF (restF K.files f) t, p ∈ K.files := fun p hp => hs1.subset (hs2.subset hp)
  have hmem : ∀ p ∈ renF K.files f t F, ∃ q ∈ K.files, q.2 = p.2 := fun p hp => by
    rcases List.mem_cons.1 hp with rfl | hp
    · exact ⟨_, hm, rfl⟩
    · exact ⟨p, hsub p hp, rfl⟩
  have hpa := allW_perm hp
  rw [allW_cons] at hpa
  have hwsub : (F.ws ++ allW (restF (restF K.files f) t)).Sublist (F.ws ++ allW (restF K.files f)) := List.Sublist.append_left (allW_sub hs2) _
  have hall : ∀ x ∈ allW (renF K.files f t F), x ∈ allW K.files := fun x hx => hpa.mem_iff.2 (hwsub.subset (by unfold renF at hx; rw [allW_cons] at hx; exact hx))
  have hlen : (allW (renF K.files f t F)).length ≤ (allW K.files).length := by
    unfold renF
    rw [allW_cons, hpa.length_eq]
    exact hwsub.length_le
  have hmany := h.many
  have hmapb : ∃ es cl, w.heap[b]? = some (.map es cl) := by
    rcases h.map with ⟨h1, _⟩ | ⟨b', D, h1, ⟨es, cl, h2, _⟩, _⟩
    · rw [h1] at hb; cases hb
    · rw [h1] at hb
      obtain rfl : b' = b := by simpa using hb
      exact ⟨_, _, h2⟩
  have hfb : ∀ p ∈ K.files, ¬ p.2.foot b := fun p hp hk => by
    obtain ⟨c, ty, h1, _⟩ := (h.files.at' p hp).kinds b hk
    obtain ⟨es, cl, h2⟩ := hmapb
    rw [h2] at h1; cases h1
  refine ⟨⟨ho.keep h.blk hdb, owns_fr h.keep hf (fun g hg hk => h.kvfar g hg (.inr (.inl (by rw [hb, hk])))), ?_, ⟨?_, ?_, ?_, ?_, ?_, ?_, ?_⟩, ?_, ?_, ?_⟩, ?_, ?_⟩
  · show MapAt w' K.m (dir (renF K.files f t F))
    rw [hb]
    exact looks_perm hmap (ren_dir _ _ _ _)
  · intro p hp
    obtain ⟨q, hq, e⟩ := hmem p hp
    rw [← e]
    exact (h.files.at' q hq).fr hf (fun k hk e => hfb q hq (e ▸ hk))
  · intro p hp
    obtain ⟨q, hq, e⟩ := hmem p hp
    rw [← e]
    exact h.files.ok q hq
  · show (t :: (restF (restF K.files f) t).map (·.1)).Nodup
    rw [List.nodup_cons]
    refine ⟨fun hx => ?_, h.files.names.sublist ((hs2.trans hs1).map _)⟩
    obtain ⟨p, hp, e⟩ := List.mem_map.1 hx
    exact rest_ne p hp e
  · show ((t, F) :: restF (restF K.files f) t).Pairwise _
    rw [List.pairwise_cons]
    refine ⟨fun p hp k hk => ?_, h.files.apart.sublist (hs2.trans hs1)⟩
    exact files_pair h.files.apart hm (hsub p hp) (fun e => rest_ne p (hs2.subset hp) (by rw [← e])) k hk
  · show (restF (restF K.files f) t).length + 1 ≤ 60
    have h1 := hp.length_eq
    have h2 := hs2.length_le
    have h3 := h.files.few
    simp only [List.length_cons] at h1
    omega
  · intro p hp
    rcases List.mem_cons.1 hp with rfl | hp
    · exact ht
    · exact h.files.long p (hsub p hp)
  · show ((allW ((t, F) :: restF (restF K.files f) t)).map (·.turn)).Nodup
    rw [allW_cons]
    exact ((hpa.map (·.turn)).nodup_iff.1 h.files.tnd).sublist (hwsub.map _)
  · exact fun x hx => h.still x (hall x hx)
  · exact fun x hx => h.turns x (hall x hx)
  · exact ⟨Nat.le_trans hlen hmany.1, hmany.2⟩
  · rintro k (hk | hk | ⟨p, hp, hk⟩ | hk)
    · exact .inl (.inl hk)
    · exact .inl (.inr (.inl hk))
    · obtain ⟨q, hq, e⟩ := hmem p hp
      exact .inl (.inr (.inr (.inl ⟨q, hq, by rw [e]; exact hk⟩)))
    · exact .inl (.inr (.inr (.inr hk)))
  · exact .only ho (.inr (.inl hb))

/-- what comes behind the count: the name is deleted, the other one set -/
theorem DiskAt.renAfter {w : World} {d : Nat} {K : Dk} {F : Fl} (h : DiskAt w d K) (s t : ByteArray) (hm : (s.data.toList, F) ∈ K.files) (hs : s.size ≤ maxLen) (ht : t.size ≤ 40) :
    ∃ b w2, K.m = some b ∧ (Builtin.delete_ #[65, 9] 0 #[.map (some b), .string s]).run Tryz.prog w = .ok (.tuple #[]) w2 ∧ w2.cell? ⟨d, 0, none⟩ = some (.map (some b)) ∧
      ∀ W2, Below w2.heap.size w2 W2 → W2.cell? ⟨d, 0, none⟩ = some (.map (some b)) ∧ ∃ w3, (Instr.mapUpdate 65 (.map (some b)) (.string t) (.pointer (some ⟨F.b, 0, none⟩))).run Tryz.prog W2 = .ok () w3 ∧ Step w d K w3 { K with files := renF K.files s.data.toList t.data.toList F } := by
  obtain ⟨b, hb⟩ : ∃ b, K.m = some b := by
    rcases h.map with ⟨_, h2⟩ | ⟨b, D, h1, _⟩
    · have h3 : dir K.files = [] := h2
      unfold dir at h3
      rw [List.map_eq_nil_iff] at h3
      rw [h3] at hm; cases hm
    · exact ⟨b, h1⟩
  have hdn : ((dir K.files).map (·.1)).Nodup := by rw [dir_names]; exact h.files.names
  have hmp := h.map
  rw [hb] at hmp
  obtain ⟨w2, hrun, hm2, ht2, _⟩ := hmp.del hdn hs 0
  have ho2 := turned_only (ht2 b rfl)
  have hdb : d ≠ b := fun e => h.mapNe (by rw [hb, e])
  have hd2 := ho2.keep h.blk hdb
  refine ⟨b, w2, hb, hrun, (cell_at hd2 0).trans (by rw [← hb]; rfl), fun W2 hW => ?_⟩
  have hd3 := old_below hd2 hW
  have hfew : (delL (dir K.files) s.data.toList).length ≤ 1000 := by
    have h1 : (delL (dir K.files) s.data.toList).length ≤ (dir K.files).length := List.length_filter_le _ _
    have h2 : (dir K.files).length = K.files.length := by unfold dir; rw [List.length_map]
    have := h.files.few
    omega
  obtain ⟨w3, hrun3, hm3, ht3⟩ := (hm2.fr (S := fun _ => False) (.of hW) (fun _ _ => id)).put (del_nodup hdn _) hfew (s := t) (by unfold maxLen; omega) F.b
  have ho3 := turned_only ht3
  refine ⟨(cell_at hd3 0).trans (by rw [← hb]; rfl), w3, hrun3, h.renamed hm hb (by rw [Array.length_toList]; exact ht) hm3 ((ho2.trans (.of hW)).trans ho3)⟩

theorem rename_falls {w : World} {d b : Nat} {K : Dk} (s t : ByteArray) (HK : Hid (Calls Tryz.prog 86 #[.pointer (some ⟨d, 0, none⟩), .slice (some ⟨w.heap.size, 0, none⟩) 2 2] (w.alloc (.cells #[.string s, .string t] 9)) fun e w' => e = .returned (.int .i64 0) ∧ w.alloc (.cells #[.string s, .string t] 9) = w'))
    (H : Hid (Calls Tryz.prog 95 #[.pointer (some ⟨d, 0, none⟩), .string s] (w.alloc (.cells #[.string s, .string t] 9)) fun e w' => e = .returned (.tuple #[.pointer (some ⟨b, 0, none⟩), .int .i64 0]) ∧ Below w.heap.size w w'))
    (HC : Hid (∀ W, Below w.heap.size w W → Calls Tryz.prog 92 #[.pointer (some ⟨d, 0, none⟩)] W fun e w' => e = .returned (.int .i64 14) ∧ ∃ n K', Crashed W d K K.keep n K' w')) :
    Calls Tryz.prog 32 #[.pointer (some ⟨d, 0, none⟩), .string s, .string t] w (FallPost w d K) := by
  go_enter Tryz.func32, Tryz.ntmps32
  go_wp2_with (first
    | (go_at_call 86; (with_reducible refine HK.out.mono ?_); rintro e w1 ⟨rfl, rfl⟩)
    | (go_at_call 95; (with_reducible refine H.out.mono ?_); rintro e w1 ⟨rfl, hb⟩; have HB := Lib.hid hb; clear hb)
    | (go_at_call 92; (with_reducible refine (HC.out _ HB.out).mono ?_); rintro e w2 ⟨rfl, n, K', hcr⟩; have HR := Lib.hid hcr; clear hcr))
  go_ret
  exact ⟨_, n, K', rfl, HB.out, HR.out⟩
set_option maxRecDepth 100000 in
set_option maxHeartbeats 1000000 in
theorem rename_done {w : World} {d b : Nat} (s t : ByteArray) (hts : t.size ≤ 40) (P : World → Prop) (Q : World → Prop) (HK : Hid (Calls Tryz.prog 86 #[.pointer (some ⟨d, 0, none⟩), .slice (some ⟨w.heap.size, 0, none⟩) 2 2] (w.alloc (.cells #[.string s, .string t] 9)) fun e w' => e = .returned (.int .i64 0) ∧ w.alloc (.cells #[.string s, .string t] 9) = w'))
    (H : Hid (Calls Tryz.prog 95 #[.pointer (some ⟨d, 0, none⟩), .string s] (w.alloc (.cells #[.string s, .string t] 9)) fun e w' => e = .returned (.tuple #[.pointer (some ⟨b, 0, none⟩), .int .i64 0]) ∧ Below w.heap.size w w'))
    (HC : Hid (∀ W, Below w.heap.size w W → Calls Tryz.prog 92 #[.pointer (some ⟨d, 0, none⟩)] W fun e w' => e = .returned (.int .i64 0) ∧ P w'))
    (HP : Hid (∀ W, P W → ∃ m w2, W.cell? ⟨d, 0, none⟩ = some (.map (some m)) ∧ (Builtin.delete_ #[65, 9] 0 #[.map (some m), .string s]).run Tryz.prog W = .ok (.tuple #[]) w2 ∧ w2.cell? ⟨d, 0, none⟩ = some (.map (some m)) ∧
      ∀ W2, Below w2.heap.size w2 W2 → W2.cell? ⟨d, 0, none⟩ = some (.map (some m)) ∧ ∃ w3, (Instr.mapUpdate 65 (.map (some m)) (.string t) (.pointer (some ⟨b, 0, none⟩))).run Tryz.prog W2 = .ok () w3 ∧ Q w3)) :
    Calls Tryz.prog 32 #[.pointer (some ⟨d, 0, none⟩), .string s, .string t] w fun e w' => e = .returned (.int .i64 0) ∧ Q w' := by
  have HCl : Hid (∀ W, Calls Tryz.prog 91 #[.string t] W fun e w' => e = .returned (.string t) ∧ Below W.heap.size W w') := fun W => clone_any t W (by omega)
  go_enter Tryz.func32, Tryz.ntmps32
  go_wp2_with (first
    | (go_at_call 86; (with_reducible refine HK.out.mono ?_); rintro e w1 ⟨rfl, rfl⟩)
    | (go_at_call 95; (with_reducible refine H.out.mono ?_); rintro e w1 ⟨rfl, hb⟩; have HB := Lib.hid hb; clear hb)
    | (go_at_call 92; (with_reducible refine (HC.out _ HB.out).mono ?_); rintro e w2 ⟨rfl, hp⟩; obtain ⟨m, w4, c0, hdel, c1, hnx⟩ := HP.out _ hp; have HX := Lib.hid hnx; clear hnx hp))
  go_region_with ((go_at_call 91; (with_reducible refine (HCl.out _).mono ?_); rintro e w5 ⟨rfl, hb⟩; obtain ⟨c2, w6, hrun, hpost⟩ := HX.out w5 (thenBelow ((Below.refl _ _).drew) hb); have HPo := Lib.hid hpost; clear hpost))
  all_goals
    go_wp2
    go_ret
    exact ⟨rfl, HPo.out⟩

end Go.Proofs.YtaabepiddbnggaaGreat.P4

/-
  What the statement DiskArmed makes of a disk, in plain words: two writes and a Sync in turn. No program. (Disk, abstract, part 5.)
-/
namespace Go.Proofs.YtaabepiddbnggaaGreat.P4
open Go Go.RowKit Go.Lib Go.Maps Go.ChangeMaps Go.MapKept Go.Proofs.YtaabepiddbnggaaGreat.P3

theorem lasts_sync2 (n : List UInt8) (L : List ByteArray) (lo : Nat) {j : Nat} (h0 : 0 < j) : syncA (lasts n L lo j) n ⟨L.take j, L.take lo, decide (0 < lo), wsL L lo j⟩ = lasts n L j j := by
  unfold syncA lasts
  rw [if_neg (by omega), if_neg (by omega), restA_one, wsL_nil]
  unfold AF.sync
  rw [decide_eq_true h0]
theorem lasts_take (n : List UInt8) (L : List ByteArray) {lo j : Nat} (h : lo ≤ j) : lasts n (L.take j) lo j = lasts n L lo j := by
  have e : wsL (L.take j) lo j = wsL L lo j := by
    unfold wsL
    apply List.map_congr_left
    intro k hk
    have := List.mem_range.1 hk
    rw [List.getD_eq_getElem?_getD, List.getElem?_take_of_lt (by omega), List.getD_eq_getElem?_getD]
  unfold lasts
  rw [e, List.take_take, List.take_take, Nat.min_self, Nat.min_eq_left h]
theorem crash_size (n : List UInt8) (L : List ByteArray) (ks : List Int) {lo j : Nat} (h : lo ≤ j) (hj : j ≤ L.length) : lo ≤ sizeA (crashA (lasts n L lo j) ks) n := by
  have hl : (L.take j).length = j := by rw [List.length_take]; omega
  have e := crash_lasts n (L.take j) ks (S := lo) (by omega)
  have hf := kAll_facts (L.take j) ks (S := lo) (by omega) ((L.take j).length - lo)
  rw [hl, lasts_take n L h] at e
  rw [hl] at hf
  rw [e]
  unfold afterC
  rw [hl]
  generalize kAll (L.take j) ks lo (j - lo) = R at hf
  have h2 := hf.lo
  by_cases h3 : 0 < R.length
  · rw [if_pos h3]
    unfold sizeA
    rw [getA_one]
    exact h2
  · have : lo = 0 := by omega
    omega
/-- behind i calls -/
def arA (n : List UInt8) (q : ByteArray) (i : Nat) : AL := lasts n (List.replicate 40 q) (2 * (i / 3)) (i - i / 3)
theorem rep_at {q : ByteArray} {j : Nat} (h : j < 40) : (List.replicate 40 q).getD j ⟨#[]⟩ = q := by
  rw [List.getD_eq_getElem?_getD, List.getElem?_replicate, if_pos h]
  rfl
theorem ar_write (n : List UInt8) (q : ByteArray) {i : Nat} (h : i % 3 ≠ 2) (hi : i < 40) : writeA (arA n q i) n (i - i / 3 + 1) (i - i / 3) q = arA n q (i + 1) := by
  have h1 := lasts_write n (List.replicate 40 q) (lo := 2 * (i / 3)) (j := i - i / 3) (by omega) (by rw [List.length_replicate]; omega)
  rw [rep_at (by omega)] at h1
  unfold arA
  rw [h1, show (i + 1) / 3 = i / 3 by omega, show i + 1 - i / 3 = i - i / 3 + 1 by omega]
theorem ar_get (n : List UInt8) (q : ByteArray) {i : Nat} (h : 0 < i) : ∃ F, getA (arA n q i) n = some F ∧ (i % 3 = 2 → syncA (arA n q i) n F = arA n q (i + 1)) := by
  refine ⟨_, lasts_get n _ _ (by omega), fun h2 => ?_⟩
  unfold arA
  rw [lasts_sync2 n _ _ (by omega), show (i + 1) / 3 = i / 3 + 1 by omega, show i + 1 - (i / 3 + 1) = i - i / 3 by omega, show 2 * (i / 3 + 1) = i - i / 3 by omega]
theorem ar_size (n : List UInt8) (q : ByteArray) {i : Nat} (h : i ≤ 40) : sizeA (arA n q i) n = i - i / 3 := lasts_size n _ _ (by rw [List.length_replicate]; omega)
theorem ar_len (n : List UInt8) (q : ByteArray) (i : Nat) : (arA n q i).length ≤ 1 := lasts_len _ _ _ _
theorem ar_crash (n : List UInt8) (q : ByteArray) (ks : List Int) {i : Nat} (h : i ≤ 40) : 2 * (i / 3) ≤ sizeA (crashA (arA n q i) ks) n := crash_size n _ ks (by omega) (by rw [List.length_replicate]; omega)

theorem a_write {a w : World} {d i lf : Nat} {ks : List Int} {q : ByteArray} (hq : q.size = 256) (h : QA a w d (i - i / 3) (arA sA.data.toList q i) lf ks) (hi : i < 40) (hm : i % 3 ≠ 2) (h0 : 0 < lf) (hlf : lf ≤ 1000000) :
    Calls Tryz.prog 18 #[.pointer (some ⟨d, 0, none⟩), .string ⟨#[97]⟩, .int .i64 ((i - i / 3 : Nat) : Int), .string q] w fun e w' => e = .returned (.int .i64 0) ∧ QA a w' d ((i + 1) - (i + 1) / 3) (arA sA.data.toList q (i + 1)) (lf - 1) ks := by
  refine (h.write sA (i - i / 3) q (by decide) (by decide) hq (by rw [ar_size _ _ (by omega)]; exact Nat.le_refl _) (by omega) (fun _ => Nat.lt_of_le_of_lt (ar_len _ _ _) (by decide)) (by omega) hlf).mono ?_
  rintro e w' (⟨_, rfl, hq2⟩ | ⟨hz, _⟩)
  · rw [ar_write _ _ hm hi] at hq2
    rw [show (i + 1) - (i + 1) / 3 = i - i / 3 + 1 by omega]
    exact ⟨rfl, hq2⟩
  · omega
theorem a_writeF {a w : World} {d i : Nat} {ks : List Int} {q : ByteArray} (hq : q.size = 256) (h : QA a w d (i - i / 3) (arA sA.data.toList q i) 0 ks) (hi : i < 40) (hm : i % 3 ≠ 2) :
    Calls Tryz.prog 18 #[.pointer (some ⟨d, 0, none⟩), .string ⟨#[97]⟩, .int .i64 ((i - i / 3 : Nat) : Int), .string q] w fun e w' => e = .returned (.int .i64 14) ∧ ∃ t A, t ≤ 100 ∧ 2 * (i / 3) ≤ sizeA A sA.data.toList ∧ QD false a w' d t A := by
  refine (h.write sA (i - i / 3) q (by decide) (by decide) hq (by rw [ar_size _ _ (by omega)]; exact Nat.le_refl _) (by omega) (fun _ => Nat.lt_of_le_of_lt (ar_len _ _ _) (by decide)) (by omega) (by omega)).mono ?_
  rintro e w' (⟨hz, _⟩ | ⟨_, rfl, hq2⟩)
  · omega
  · rw [ar_write _ _ hm hi] at hq2
    have hc := ar_crash sA.data.toList q ks (i := i + 1) (by omega)
    exact ⟨rfl, _, _, by omega, by omega, hq2⟩
theorem a_sync {a w : World} {d i lf : Nat} {ks : List Int} {q : ByteArray} (h : QA a w d (i - i / 3) (arA sA.data.toList q i) lf ks) (hi : i < 40) (hm : i % 3 = 2) (h0 : 0 < lf) (hlf : lf ≤ 1000000) :
    Calls Tryz.prog 28 #[.pointer (some ⟨d, 0, none⟩), .string ⟨#[97]⟩] w fun e w' => e = .returned (.int .i64 0) ∧ QA a w' d ((i + 1) - (i + 1) / 3) (arA sA.data.toList q (i + 1)) (lf - 1) ks := by
  obtain ⟨F, hF, hs⟩ := ar_get sA.data.toList q (i := i) (by omega)
  refine (h.sync sA (by decide) (by decide) hlf hF).mono ?_
  rintro e w' (⟨_, rfl, hq2⟩ | ⟨hz, _⟩)
  · rw [hs hm] at hq2
    rw [show (i + 1) - (i + 1) / 3 = i - i / 3 by omega]
    exact ⟨rfl, hq2⟩
  · omega
theorem a_syncF {a w : World} {d i : Nat} {ks : List Int} {q : ByteArray} (h : QA a w d (i - i / 3) (arA sA.data.toList q i) 0 ks) (hi : i < 40) (hm : i % 3 = 2) :
    Calls Tryz.prog 28 #[.pointer (some ⟨d, 0, none⟩), .string ⟨#[97]⟩] w fun e w' => e = .returned (.int .i64 14) ∧ ∃ t A, t ≤ 100 ∧ 2 * (i / 3) ≤ sizeA A sA.data.toList ∧ QD false a w' d t A := by
  obtain ⟨F, hF, hs⟩ := ar_get sA.data.toList q (i := i) (by omega)
  refine (h.sync sA (by decide) (by decide) (by omega) hF).mono ?_
  rintro e w' (⟨hz, _⟩ | ⟨_, rfl, hq2⟩)
  · omega
  · exact ⟨rfl, _, _, by omega, ar_crash sA.data.toList q ks (by omega), hq2⟩

end Go.Proofs.YtaabepiddbnggaaGreat.P4
