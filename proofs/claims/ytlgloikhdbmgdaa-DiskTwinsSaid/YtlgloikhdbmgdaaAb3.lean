/-
  Package disk: Arm with any list; a disk that is armed, as the document has it: Write, Sync till the power goes, and behind it. (Disk, part 35.)
-/
import Derived.Test.YtlgloikhdbmgdaaLs1
import Derived.Test.YtlgloikhdbmgdaaDk33
namespace Go.Proofs.Ytlgloikhdbmgdaa.P4
open Go Go.RowKit Go.Lib Go.Maps Go.ChangeMaps Go.MapKept Go.Proofs.Ytlgloikhdbmgdaa.P3

theorem DiskAt.armG {w : World} {d : Nat} {K : Dk} (h : DiskAt w d K) (n : Int) (hn : 0 ≤ n) (v : Value) (ks : List Int)
    (HCl : ∀ w3, Only d w w3 → Calls Try.prog 44 #[v] w3 fun e W => ∃ v', e = .returned v' ∧ W.ownsRow w3.heap.size 3 1 v' ks.length (ivs ks) ∧ Below w3.heap.size w3 W) :
    Calls Try.prog 19 #[.pointer (some ⟨d, 0, none⟩), .int .i64 n, v] w (ArmPost w d K n ks) := by
  obtain ⟨w3, hw3⟩ : ∃ w3, w3 = ((w.setCell ⟨d, 4, none⟩ (.bool false)).setCell ⟨d, 5, none⟩ (.int .i64 0)).setCell ⟨d, 6, none⟩ (.slice none 0 0) := ⟨_, rfl⟩
  have ho3 : Only d w w3 := by rw [hw3]; exact (((Only.refl d w).setCell _ _).setCell _ _).setCell _ _
  have hs3 : w3.heap.size = w.heap.size := by rw [hw3]; simp [World.setCell]
  have hd := lt_of_block h.blk
  have hb3 : w3.heap[d]? = some (.cells (((K.cells.setIfInBounds 4 (.bool false)).setIfInBounds 5 (.int .i64 0)).setIfInBounds 6 (.slice none 0 0)) 58 (0, 0)) := by
    rw [hw3]; exact set_at (set_at (set_at h.blk 4 _) 5 _) 6 _
  have hcl := HCl w3 ho3
  have HB : ∀ W, Below w3.heap.size w3 W → W.heap[d]? = some (.cells (((K.cells.setIfInBounds 4 (.bool false)).setIfInBounds 5 (.int .i64 0)).setIfInBounds 6 (.slice none 0 0)) 58 (0, 0)) := fun W hW => old_below hb3 hW
  refine (arm_pos w d n _ _ _ _ (cell_at h.blk 4) (cell_at h.blk 5) (cell_at h.blk 6) (free_at h.blk 4) (free_at h.blk 5) (free_at h.blk 6) hn (fun W v' => Below w3.heap.size w3 W ∧ W.ownsRow w3.heap.size 3 1 v' ks.length (ivs ks)) ?_ ?_).mono ?_
  · rw [← hw3]
    refine hcl.mono ?_
    rintro e W ⟨v', rfl, h1, h3⟩
    obtain ⟨p, q, rfl⟩ := len_own h1
    exact ⟨p, _, q, rfl, h3, h1⟩
  · rintro W v' ⟨hW, _⟩
    have hB := HB W hW
    exact ⟨⟨_, cell_at hB 4⟩, ⟨_, cell_at hB 5⟩, ⟨_, cell_at hB 6⟩, free_at hB 4, free_at hB 5, free_at hB 6⟩
  · rintro e w' ⟨v', W, rfl, ⟨hW, hrow⟩, rfl⟩
    have hB := HB W hW
    have hoW : Only d W (((W.setCell ⟨d, 4, none⟩ (.bool true)).setCell ⟨d, 5, none⟩ (.int .i64 n)).setCell ⟨d, 6, none⟩ v') := (((Only.refl d W).setCell _ _).setCell _ _).setCell _ _
    have ho : Only d w (((W.setCell ⟨d, 4, none⟩ (.bool true)).setCell ⟨d, 5, none⟩ (.int .i64 n)).setCell ⟨d, 6, none⟩ v') := (ho3.trans (.of hW)).trans hoW
    have hlt : ∀ k, v'.ownBlock = some k → w.heap.size ≤ k := fun k hk => by have := (hrow.lt k hk).1; omega
    refine ⟨v', rfl, ⟨h.own ho (set_at (set_at (set_at hB 4 _) 5 _) 6 _) rfl rfl ?_ (Nat.le_refl _) h.many.2, ?_, .only ho (.inl rfl)⟩⟩
    · exact owns_fr (owns_zero hrow) (Fr.only (S := (· = d)) hoW rfl) (fun k hk e => by have := hlt k hk; omega)
    · rintro k (hk | hk | hk | hk)
      · exact .inl (.inl hk)
      · exact .inl (.inr (.inl hk))
      · exact .inl (.inr (.inr (.inl hk)))
      · exact .inr (hlt k hk)


theorem clone_nilI (w : World) : Calls Try.prog 44 #[.slice none 0 0] w fun r w' => r = .returned (.slice none 0 0) ∧ w = w' := by
  have k := Lib.run_eql_slice_nil (P := Try.prog) w 22 3 none 0 0 0 0 Try.underlying22
  go_enter Try.func44, Try.ntmps44
  go_wp2
  go_ret
  exact ⟨rfl, rfl⟩
theorem clone_odd (w : World) (a : Addr) (c : Nat) : Calls Try.prog 44 #[.slice (some a) 0 c] w fun r w' => ∃ v', r = .returned v' ∧ w'.ownsRow w.heap.size 3 1 v' 0 [] ∧ Below w.heap.size w w' := by
  have k := Lib.run_eql_slice_some_nil (P := Try.prog) w a 0 c Try.underlying22
  go_enter Try.func44, Try.ntmps44
  go_wp2
  go_ret
  exact ⟨_, rfl, ⟨rfl, .inr ⟨w.heap.size, 0, _, rfl, Nat.le_refl _, new_at w _ _, by simp, by simp, by simp, by simp⟩⟩, below_new w _⟩

/-- the list that is handed in, as Arm wants it -/
def KeepV (w : World) (v : Value) (ks : List Int) : Prop :=
  (v = .slice none 0 0 ∧ ks = []) ∨ (∃ a c, v = .slice (some a) 0 c ∧ ks = []) ∨ ∃ g o c, v = .slice (some ⟨g, o, none⟩) ks.length c ∧ g < w.heap.size ∧ ks.length * 8 ≤ 140737488355328 ∧ ∀ j, j < ks.length → w.cell? ⟨g, o + j, none⟩ = some (.int .i64 (ks.getD j 0))

/-- armed: lf calls more, then the power goes, and ks are kept -/
def QA (a w : World) (d t : Nat) (A : AL) (lf : Nat) (ks : List Int) : Prop := ∃ K, Lives a w d K A ∧ K.on = true ∧ K.room ≤ 0 ∧ K.armed = true ∧ K.left = (lf : Int) ∧ K.keep = ks ∧ K.turn = t
theorem QA.below {a w w' : World} {d t : Nat} {A : AL} {lf : Nat} {ks : List Int} (h : QA a w d t A lf ks) (hb : Below w.heap.size w w') : QA a w' d t A lf ks := by
  obtain ⟨K, h1, h2⟩ := h
  exact ⟨K, h1.below hb, h2⟩
theorem QA.fr {a w : World} {d t : Nat} {A : AL} {lf : Nat} {ks : List Int} (h : QA a w d t A lf ks) : Below a.heap.size a w := by
  obtain ⟨K, h1, h2⟩ := h
  exact h1.fr
theorem QD.arm {a w : World} {d t : Nat} {A : AL} {v : Value} (h : QD true a w d t A) (n : Nat) (ks : List Int) (hv : KeepV a v ks) :
    Calls Try.prog 19 #[.pointer (some ⟨d, 0, none⟩), .int .i64 n, v] w fun e w' => e = .returned (.tuple #[]) ∧ QA a w' d t A n ks := by
  obtain ⟨K, hL, hC⟩ := h
  have hdn : a.heap.size ≤ d := hL.foot d (.inl rfl)
  refine (hL.da.at'.armG n (by omega) v ks ?_).mono ?_
  · intro w3 ho
    rcases hv with ⟨rfl, rfl⟩ | ⟨a', c, rfl, rfl⟩ | ⟨g, o, c, rfl, hg, hl, hc⟩
    · exact (clone_nilI w3).mono fun e W ⟨h1, h2⟩ => ⟨_, h1, World.ownsRow_nil _ _ _ _, h2 ▸ Below.refl _ _⟩
    · exact clone_odd w3 a' c
    · refine (Try.slices_Clone_int g o ks.length c ks w3 (Nat.le_refl _) hl (fun j hj => ?_)).mono fun e W ⟨v', h1, h2, _, h4⟩ => ⟨v', h1, ?_, h4⟩
      · have hb : Below a.heap.size a w := hL.fr
        have h1 : w.cell? ⟨g, o + j, none⟩ = some (.int .i64 (ks.getD j 0)) := by rw [hb.cell (p := ⟨g, o + j, none⟩) hg]; exact hc j hj
        rw [← h1]
        exact (heap_ext (ho.block g (Nat.lt_of_lt_of_le hg hb.size) (by omega)) (o + j)).1
      · rw [List.take_length] at h2; exact h2
  · rintro e w' ⟨v', rfl, hst⟩
    exact ⟨rfl, _, hL.step hst hL.da.abs, hC.on, hC.room, rfl, rfl, rfl, hC.turn⟩

theorem errn_off (n : Nat) : errn false n = 14 := rfl
/-- without power -/
theorem QD.writeOff {a w : World} {d t : Nat} {A : AL} (h : QD false a w d t A) (s : ByteArray) (i : Int) (data : ByteArray) (hs : s.size ≤ maxLen) (ht : t < 9000) :
    Calls Try.prog 10 #[.pointer (some ⟨d, 0, none⟩), .string s, .int .i64 i, .string data] w fun e w' => e = .returned (.int .i64 14) ∧ QD false a w' d t A := by
  have h0 := h
  obtain ⟨K, hL, hC⟩ := h
  have e0 : writeE K s i data.size = 14 := by
    unfold writeE
    rw [hC.on, errn_off, if_pos (by decide)]
  refine (hL.da.at'.write s i data hs (by rw [hC.left]; decide) (by rw [hC.turn]; exact ht)).mono ?_
  rintro e w' (⟨_, rfl, hb⟩ | ⟨hz, _⟩)
  · rw [e0]; exact ⟨rfl, h0.below hb⟩
  · rw [e0] at hz; cases hz
theorem QD.syncOff {a w : World} {d t : Nat} {A : AL} (h : QD false a w d t A) (s : ByteArray) (hs : s.size ≤ maxLen) :
    Calls Try.prog 12 #[.pointer (some ⟨d, 0, none⟩), .string s] w fun e w' => e = .returned (.int .i64 14) ∧ QD false a w' d t A := by
  have h0 := h
  obtain ⟨K, hL, hC⟩ := h
  have e0 : errF K.on s.size (getF K.files s.data.toList) = 14 := by
    unfold errF
    rw [hC.on, errn_off, if_neg (by decide)]
  refine (hL.da.at'.sync s hs (by rw [hC.left]; decide)).mono ?_
  intro e w' hp
  cases hp with
  | err _ hb => rw [e0]; exact ⟨rfl, h0.below hb⟩
  | falls hz _ _ _ _ => rw [e0] at hz; cases hz
  | done hz _ _ _ => rw [e0] at hz; cases hz

theorem Crashed.qd {a w w' : World} {d t : Nat} {K K' : Dk} {A : AL} {ks : List Int} {z : Int} (h : Lives a w d K A) (hr : K.room ≤ 0) (ht : K.turn = t) (hc : Crashed w d K ks z K' w') : QD false a w' d t (crashA A ks) := by
  obtain ⟨_, hda⟩ := hc.absA h.da
  refine ⟨K', h.step hc.step hda.abs, ?_⟩
  rw [hc.eq]
  exact ⟨rfl, hr, rfl, rfl, ht⟩
theorem QA.writeE0 {K : Dk} {A : AL} {a w : World} {d : Nat} (hL : Lives a w d K A) (hon : K.on = true) (hroom : K.room ≤ 0) (s : ByteArray) (i : Nat) (data : ByteArray) (h1 : 1 ≤ s.size) (h2 : s.size ≤ 40) (hd : data.size = 256) (hi : i ≤ sizeA A s.data.toList) (hi2 : i ≤ 4000) (hl : getA A s.data.toList = none → A.length < 60) : writeE K s i data.size = 0 := by
  have hlen : K.files.length = A.length := by rw [← hL.da.abs.length_eq]; simp [absL]
  have hfull : fullOf K = false := by
    unfold fullOf
    rw [decide_eq_false (by omega), Bool.false_and]
  unfold writeE
  rw [if_neg (by rw [hon, errn_good h1 h2]; decide), if_neg (by omega), hL.da.size, if_neg (by omega), if_neg (fun hx => by rw [hfull] at hx; exact absurd hx.2 (by decide)),
    if_neg (fun hx => by have := hl ((hL.da.getNone _).1 hx.1); omega)]
/-- Write on an armed disk: told OK, and one call less; or the power goes behind it -/
theorem QA.write {a w : World} {d t : Nat} {A : AL} {lf : Nat} {ks : List Int} (h : QA a w d t A lf ks) (s : ByteArray) (i : Nat) (data : ByteArray) (h1 : 1 ≤ s.size) (h2 : s.size ≤ 40) (hd : data.size = 256) (hi : i ≤ sizeA A s.data.toList) (hi2 : i ≤ 4000) (hl : getA A s.data.toList = none → A.length < 60) (ht : t < 9000) (hlf : lf ≤ 1000000) :
    Calls Try.prog 10 #[.pointer (some ⟨d, 0, none⟩), .string s, .int .i64 i, .string data] w fun e w' =>
      (0 < lf ∧ e = .returned (.int .i64 0) ∧ QA a w' d (t + 1) (writeA A s.data.toList (t + 1) i data) (lf - 1) ks) ∨
      (lf = 0 ∧ e = .returned (.int .i64 14) ∧ QD false a w' d (t + 1) (crashA (writeA A s.data.toList (t + 1) i data) ks)) := by
  obtain ⟨K, hL, hon, hroom, harm, hleft, hkeep, hturn⟩ := h
  have e0 := QA.writeE0 hL hon hroom s i data h1 h2 hd hi hi2 hl
  refine (hL.da.at'.write s i data (by unfold maxLen; omega) (by rw [hleft]; omega) (by rw [hturn]; exact ht)).mono ?_
  rintro e w' (⟨hne, _⟩ | ⟨_, w1, K1, hst, hw, n, K2, rfl, hcp⟩)
  · exact absurd e0 hne
  · have hsame := hw.same
    have habs := hw.abs hL.da
    rw [Int.toNat_natCast, hturn] at habs
    have hL1 := hL.step hst habs
    have e1 : K1.on = true := by rw [hsame]; exact hon
    have e2 : K1.room ≤ 0 := by rw [hsame]; exact hroom
    have e3 : K1.armed = true := by rw [hsame]; exact harm
    have e4 : K1.left = (lf : Int) := by rw [hsame]; exact hleft
    have e5 : K1.keep = ks := by rw [hsame]; exact hkeep
    have e6 : K1.turn = t + 1 := by rw [hsame]; show K.turn + 1 = _; rw [hturn]
    clear hsame
    cases hcp with
    | free h3 _ _ => rw [e3] at h3; cases h3
    | less _ h4 hs2 =>
      refine .inl ⟨by omega, rfl, _, hL1.step hs2 hL1.da.abs, e1, e2, e3, ?_, e5, e6⟩
      show K1.left - 1 = _
      omega
    | falls _ h4 hcr =>
      refine .inr ⟨by omega, rfl, ?_⟩
      rw [← e5]
      exact hcr.qd hL1 e2 e6
theorem QA.sync {a w : World} {d t : Nat} {A : AL} {lf : Nat} {ks : List Int} (h : QA a w d t A lf ks) (s : ByteArray) (h1 : 1 ≤ s.size) (h2 : s.size ≤ 40) (hlf : lf ≤ 1000000) {F : AF} (hg : getA A s.data.toList = some F) :
    Calls Try.prog 12 #[.pointer (some ⟨d, 0, none⟩), .string s] w fun e w' =>
      (0 < lf ∧ e = .returned (.int .i64 0) ∧ QA a w' d t (syncA A s.data.toList F) (lf - 1) ks) ∨ (lf = 0 ∧ e = .returned (.int .i64 14) ∧ QD false a w' d t (crashA A ks)) := by
  obtain ⟨K, hL, hon, hroom, harm, hleft, hkeep, hturn⟩ := h
  obtain ⟨G, hG, hGF, he⟩ := hL.da.errF0 hon s h1 h2 hg
  refine (hL.da.at'.sync s (by unfold maxLen; omega) (by rw [hleft]; omega)).mono ?_
  intro e w' hp
  cases hp with
  | err hne _ => exact absurd he hne
  | falls _ _ h4 hb hcr =>
    refine .inr ⟨by omega, rfl, ?_⟩
    rw [← hkeep]
    exact hcr.qd (hL.below hb) hroom hturn
  | @done _ F2 _ h4 hF hst =>
    rw [hG] at hF
    obtain rfl : G = F2 := by simpa using hF
    have hcK : counted K = { K with left := K.left - 1 } := by unfold counted; rw [if_pos harm]
    rw [hcK] at hst
    have h5 : 0 < lf := by
      rcases h4 with h4 | h4
      · rw [harm] at h4; cases h4
      · omega
    refine .inl ⟨h5, rfl, _, hL.step hst ?_, hon, hroom, harm, ?_, hkeep, hturn⟩
    · show (absP (s.data.toList, G.sync) :: absL (restF K.files s.data.toList)).Perm _
      unfold absP syncA
      rw [Fl.sync_abs, rest_abs, hGF]
      exact (restA_perm hL.da.abs _).cons _
    · show K.left - 1 = _
      omega

/-- whatever it is armed for -/
def QX (on : Bool) (a w : World) (d : Nat) (A : AL) : Prop := ∃ K, Lives a w d K A ∧ K.on = on
theorem QD.x {on : Bool} {a w : World} {d t : Nat} {A : AL} (h : QD on a w d t A) : QX on a w d A := by
  obtain ⟨K, h1, h2⟩ := h
  exact ⟨K, h1, h2.on⟩
theorem QA.x {a w : World} {d t : Nat} {A : AL} {lf : Nat} {ks : List Int} (h : QA a w d t A lf ks) : QX true a w d A := by
  obtain ⟨K, h1, h2, _⟩ := h
  exact ⟨K, h1, h2⟩
theorem QX.fr {on : Bool} {a w : World} {d : Nat} {A : AL} (h : QX on a w d A) : Below a.heap.size a w := by
  obtain ⟨K, h1, _⟩ := h
  exact h1.fr
theorem QX.below {on : Bool} {a w w' : World} {d : Nat} {A : AL} (h : QX on a w d A) (hb : Below w.heap.size w w') : QX on a w' d A := by
  obtain ⟨K, h1, h2⟩ := h
  exact ⟨K, h1.below hb, h2⟩
theorem QX.restore {on : Bool} {a w : World} {d : Nat} {A : AL} (h : QX on a w d A) :
    Calls Try.prog 14 #[.pointer (some ⟨d, 0, none⟩)] w fun e w' => e = .returned (.tuple #[]) ∧ QX true a w' d A := by
  obtain ⟨K, hL, hC⟩ := h
  refine hL.da.at'.restore.mono ?_
  rintro e w' ⟨rfl, hs⟩
  exact ⟨rfl, _, hL.step hs hL.da.abs, rfl⟩
theorem QX.on_ {on : Bool} {a w : World} {d : Nat} {A : AL} (h : QX on a w d A) :
    Calls Try.prog 20 #[.pointer (some ⟨d, 0, none⟩)] w fun e w' => e = .returned (.bool on) ∧ w = w' := by
  obtain ⟨K, hL, hC⟩ := h
  exact on_any w d on ((cell_at hL.da.at'.blk 1).trans (by rw [← hC]; rfl))
theorem QX.size {a w : World} {d : Nat} {A : AL} (h : QX true a w d A) (s : ByteArray) (h1 : 1 ≤ s.size) (h2 : s.size ≤ 40) :
    Calls Try.prog 15 #[.pointer (some ⟨d, 0, none⟩), .string s] w fun e w' => e = .returned (.tuple #[.int .i64 (sizeA A s.data.toList : Nat), .int .i64 (if getA A s.data.toList = none then 8 else 0)]) ∧ QX true a w' d A := by
  have h0 := h
  obtain ⟨K, hL, hC⟩ := h
  refine (hL.da.at'.sizeOf s (by unfold maxLen; omega)).mono ?_
  rintro e w' ⟨rfl, hb⟩
  refine ⟨?_, h0.below hb⟩
  have hsz := hL.da.size s.data.toList
  have hn := hL.da.getNone s.data.toList
  rw [← hsz]
  unfold sizeF errF sizeN
  rw [hC, errn_good h1 h2, if_pos rfl, if_pos rfl]
  cases hg : getF K.files s.data.toList with
  | none => rw [if_pos (hn.1 hg)]
  | some F => rw [if_neg (fun e => by rw [hn.2 e] at hg; cases hg)]

end Go.Proofs.Ytlgloikhdbmgdaa.P4
