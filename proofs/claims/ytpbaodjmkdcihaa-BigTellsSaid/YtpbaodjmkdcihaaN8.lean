/-
  A value read: package big's Read, whatever pages are told.
-/
import Derived.Test.YtpbaodjmkdcihaaN4
import Derived.Test.YtpbaodjmkdcihaaN7
import Derived.Test.YtpbaodjmkdcihaaN8a
import Derived.Test.YtpbaodjmkdcihaaBld
namespace Go.Proofs.Ytpbaodjmkdcihaa.P11
open Go Go.RowKit Go.Lib Go.Proofs.Ytpbaodjmkdcihaa.PK
open Go.Proofs.Ytpbaodjmkdcihaa.P0 (size_app)

/-- is the k-th page one of a value of n bytes? -/
def goodF (n : Nat) (F : Nat → Pg × Int) (k : Nat) : Bool := decide ((F k).2 = 0) && (decide ((F k).1.k = 5) && decide ((F k).1.body.size = min (n - 232 * k) 232))
/-- the pages' bodies, one behind the other -/
def catF (F : Nat → Pg × Int) : Nat → ByteArray
  | 0 => ⟨#[]⟩
  | k + 1 => catF F k ++ (F k).1.body
/-- what is read, if each page is told by F -/
def readF (n : Nat) (F : Nat → Pg × Int) : ByteArray × Int := if (∀ k, k < needN n → goodF n F k = true) then (catF F (needN n), 0) else (⟨#[]⟩, 25)
theorem readF_good {n : Nat} {F : Nat → Pg × Int} (h : ∀ k, k < needN n → goodF n F k = true) : readF n F = (catF F (needN n), 0) := if_pos h
theorem readF_bad {n : Nat} {F : Nat → Pg × Int} {k : Nat} (hk : k < needN n) (h : goodF n F k = false) : readF n F = (⟨#[]⟩, 25) := if_neg (fun q => by rw [q k hk] at h; cases h)
theorem catF_size {n : Nat} {F : Nat → Pg × Int} : ∀ {i : Nat}, i < needN n → (∀ k, k < i → goodF n F k = true) → (catF F i).size = 232 * i
  | 0, _, _ => rfl
  | i + 1, hi, h => by
    have ih := catF_size (i := i) (by omega) (fun k hk => h k (by omega))
    have hg := h i (by omega)
    unfold goodF at hg
    simp only [Bool.and_eq_true, decide_eq_true_eq] at hg
    have hn : 232 * (i + 1) < n := by unfold needN at hi; omega
    show (catF F i ++ (F i).1.body).size = _
    rw [size_app, ih, hg.2.2]
    omega

theorem bld_below {B b : Nat} {bs : List Value} {w w' : World} (h : Lib.IsBuilder 59 5 B b bs w) (hb : Below w.heap.size w w') : Lib.IsBuilder 59 5 B b bs w' := by
  rcases h with h | h
  all_goals
    obtain ⟨h1, v, h2, h3, h4⟩ := h
    first
      | exact .inl ⟨h1, v, (hb.block b (P0.lt_of_block h2)).trans h2, owns_below h3 hb, h4⟩
      | exact .inr ⟨h1, v, (hb.block b (P0.lt_of_block h2)).trans h2, owns_below h3 hb, h4⟩
/-- the builder at block X holds the text S -/
def BldS (w : World) (X : Nat) (S : ByteArray) (wr : World) : Prop := Lib.IsBuilder 59 5 w.heap.size X (Lib.byteCells S.data.toList) wr
theorem BldS.over {w wr w' : World} {X : Nat} {S : ByteArray} (h : BldS w X S wr) (hb : Below wr.heap.size wr w') : BldS w X S w' := bld_below h hb
theorem BldS.start {w w0 : World} (h : Below w.heap.size w w0) : BldS w w0.heap.size ⟨#[]⟩ (w0.alloc (.cells #[.pointer none, .slice none 0 0] 59)) :=
  .inl ⟨h.size, .slice none 0 0, new_at w0 _ _, World.ownsRow_nil _ _ _ _, by simp [Value.ownBlock]⟩
theorem BldS.len {w wr : World} {X : Nat} {S : ByteArray} (h : BldS w X S wr) :
    Calls Try.prog 29 #[.pointer (some ⟨X, 0, none⟩)] wr fun e w' => e = .returned (.int .i64 S.size) ∧ w' = wr := by
  refine (Try.Builder_Len w.heap.size X _ wr h).mono fun e w' ⟨h1, h2⟩ => ⟨?_, h2⟩
  rw [h1, Lib.byteCells_length]
  rfl
theorem BldS.text {w wr : World} {X : Nat} {S : ByteArray} (h : BldS w X S wr) (hb : Below w.heap.size w wr) :
    Calls Try.prog 31 #[.pointer (some ⟨X, 0, none⟩)] wr fun e w' => e = .returned (.string S) ∧ Below w.heap.size w w' := by
  refine (Try.Builder_String_any w.heap.size X S.data.toList wr h hb.size).mono fun e w' ⟨h1, h2⟩ => ⟨?_, hb.trans h2⟩
  rw [h1]
theorem BldS.write {w wr : World} {X : Nat} {S : ByteArray} (h : BldS w X S wr) (hb : Below w.heap.size w wr) (s : ByteArray) (hl : S.size + s.size ≤ 100000) :
    Calls Try.prog 30 #[.pointer (some ⟨X, 0, none⟩), .string s] wr fun e w' => e = .returned (.tuple #[.int .i64 s.size, .nilIface]) ∧ BldS w X (S ++ s) w' ∧ Below w.heap.size w w' := by
  refine (PB.write_any w.heap.size X _ s wr h (by rw [Lib.byteCells_length, Array.length_toList]; exact Nat.le_trans hl (by decide)) hb.size).mono fun e w' ⟨h1, h2, h3⟩ => ⟨h1, ?_, hb.trans h3⟩
  unfold BldS
  rw [P0.text_app]
  have e1 : Lib.byteCells (S.data.toList ++ s.data.toList) = Lib.byteCells S.data.toList ++ Lib.strCells s := by simp [Lib.byteCells]; rfl
  rw [e1]
  exact h2

set_option maxRecDepth 100000 in
set_option maxHeartbeats 4000000 in
theorem read_ok (w : World) (s : ByteArray) (bl bo a n : Nat) (F : Nat → Pg × Int) (hu : unrefB s = ((a : Int), (n : Int), 0)) (ha : a < 4000) (hn : n ≤ 2000)
    (hg : ∀ W, Below w.heap.size w W → ∀ k, k < needN n → Calls Try.prog 14 #[.int .i64 ((a : Int) + (k : Nat)), .pointer (some ⟨bl, 0, none⟩), .pointer (some ⟨bo, 0, none⟩)] W fun e w' => e = .returned (.tuple #[(F k).1.v, .int .i64 (F k).2]) ∧ Below W.heap.size W w') :
    Calls Try.prog 16 #[.string s, .func (.func 14) #[] #[.pointer (some ⟨bl, 0, none⟩), .pointer (some ⟨bo, 0, none⟩)]] w fun e w' => e = .returned (.tuple #[.string (readF n F).1, .int .i64 (readF n F).2]) ∧ Below w.heap.size w w' := by
  have HU := Lib.hid (fun W => unref_any W s)
  rw [hu] at HU
  simp only at HU
  have HG : Hid (∀ W, Below w.heap.size w W → ∀ k, k < needN n → Calls Try.prog 28 #[.func (.func 14) #[] #[.pointer (some ⟨bl, 0, none⟩), .pointer (some ⟨bo, 0, none⟩)], .int .i64 ((a : Int) + (k : Nat))] W fun e w' => e = .returned (.tuple #[(F k).1.v, .int .i64 (F k).2]) ∧ Below W.heap.size W w') :=
    fun W hW k hk => ask_any W bl bo _ (F k).1 (F k).2 (fun V hV => hg V (thenBelow hW hV) k hk)
  have hNs : needN n ≤ 10 := by unfold needN; omega
  have HNd : Hid (∀ W, Calls Try.prog 12 #[.int .i64 n] W fun e w' => e = .returned (.int .i64 (needN n : Nat)) ∧ Below W.heap.size W w') := fun W => by
    have := need_any W n (by omega)
    rwa [needB_nat] at this
  have HRg : Hid ((∀ k, k < needN n → goodF n F k = true) → readF n F = (catF F (needN n), 0)) := readF_good
  have HRb : Hid (∀ k, k < needN n → goodF n F k = false → readF n F = (⟨#[]⟩, 25)) := fun k hk h => readF_bad hk h
  have HSz : Hid (∀ i, i < needN n → (∀ k, k < i → goodF n F k = true) → (catF F i).size = 232 * i) := fun i hi h => catF_size hi h
  have HIn : Hid (∀ k, k < needN n → 232 * k ≤ n) := fun k hk => need_in hk
  generalize needN n = N at *
  clear hu hg
  go_enter Try.func16, Try.ntmps16
  go_wp2_with (first
    | (go_at_call 10; (with_reducible refine (HU.out _).mono ?_); rintro e w0 ⟨rfl, hb⟩; have B0 := Lib.hid hb; clear hb)
    | (go_at_call 12; (with_reducible refine (HNd.out _).mono ?_); rintro e w1 ⟨rfl, hb⟩; have S1 := Lib.hid ((BldS.start B0.out).over hb); have B1 := Lib.hid (thenBelow (grow B0.out _) hb); clear hb))
  obtain ⟨X, hX⟩ : ∃ X, X = w0.heap.size := ⟨_, rfl⟩
  rw [← hX] at S1 ⊢
  clear hX
  go_loopw [24] (fun vi wr => ∃ i : Nat, i ≤ N ∧ vi = .int .i64 i ∧ Hid (BldS w X (catF F i) wr) ∧ Hid (∀ k, k < i → goodF n F k = true) ∧ Hid (Below w.heap.size w wr)) (fun vi _ => N - (RowKit.intOf vi).toNat)
  case atStart => exact ⟨0, Nat.zero_le _, rfl, S1.out, fun k hk => absurd hk (Nat.not_lt_zero _), B1.out⟩
  case round =>
    obtain ⟨i, hi, rfl, HS, HI, HB⟩ := hrel
    by_cases hlt : i < N
    · have k2 : (i : Int) < (N : Int) := by omega
      have hin := HIn.out i hlt
      have hsz := HSz.out i hlt HI.out
      have HGi := Lib.hid (HG.out wr HB.out i hlt)
      have HCn : Hid (catF F (i + 1) = catF F i ++ (F i).1.body) := rfl
      have HGd : Hid (goodF n F i = (decide ((F i).2 = 0) && (decide ((F i).1.k = 5) && decide ((F i).1.body.size = min (n - 232 * i) 232)))) := rfl
      have HBd : Hid (goodF n F i = false → readF n F = (⟨#[]⟩, 25)) := fun h => HRb.out i hlt h
      generalize catF F i = S at *
      generalize F i = P at *
      obtain ⟨⟨pk, pid, ptx, pb⟩, pe⟩ := P
      unfold Pg.v at HGi
      simp only at HGi HCn HGd
      obtain ⟨m, hm⟩ : ∃ m, m = min (n - 232 * i) 232 := ⟨_, rfl⟩
      rw [← hm] at HGd
      have hmin : min ((n : Int) - (S.size : Int)) 232 = (m : Int) := by omega
      have hm2 : m ≤ 232 := by omega
      have HL := Lib.hid (fun W n (h : BldS w X S W) => (h.over (drewN_below W n)).len)
      clear hm
      by_cases he : pe = 0
      · have m1 : (pe != 0) = false := by simp [he]
        by_cases hk : pk = 5
        · have m2 : (pk != 5) = false := by simp [hk]
          by_cases hz : pb.size = m
          · have m3 : ((pb.size : Int) != (m : Int)) = false := by simp; omega
            have HOK : Hid (goodF n F i = true) := by show _ = _; rw [HGd.out]; simp [he, hk, hz]
            have HI2 : Hid (∀ k, k < i + 1 → goodF n F k = true) := fun k hk => by
              by_cases q : k < i
              · exact HI.out k q
              · rw [show k = i by omega]; exact HOK.out
            have HW := Lib.hid (fun W (h : BldS w X S W) hb => h.write hb pb (by omega))
            clear he hk HGd HBd HRb HI hz
            go_wp2_with (first
              | (go_at_call 28; (with_reducible refine (HGi.out).mono ?_); rintro e w2 ⟨rfl, hb⟩; have B2 := Lib.hid (thenBelow HB.out hb); have S2 := Lib.hid (HS.out.over hb); clear hb))
            go_quiet ((go_at_call 29; with_reducible exact Calls.quiet_of_same (HL.out _ _ (S2.out.over (below_new _ _)))))
            go_wp2_with (first
              | (go_at_call 30; (with_reducible refine (HW.out _ (S2.out.over (thenBelow (below_new _ _) (drewN_below _ _))) (thenBelow (grow B2.out _) (drewN_below _ _))).mono ?_); rintro e w3 ⟨rfl, hs, hb⟩; have S3 := Lib.hid hs; have B3 := Lib.hid hb; clear hs hb))
            go_roundw
            case rel => exact ⟨i + 1, by omega, by go_num, by rw [HCn.out]; exact S3, HI2.out, B3.out⟩
            case measure => simp [RowKit.intOf]; omega
          · have m3 : ((pb.size : Int) != (m : Int)) = true := by simp; omega
            have HE : Hid (readF n F = (⟨#[]⟩, 25)) := HBd.out (by rw [HGd.out]; simp; intros; omega)
            clear he hk HGd HBd HRb HRg HI hz
            go_wp2_with (first
              | (go_at_call 28; (with_reducible refine (HGi.out).mono ?_); rintro e w2 ⟨rfl, hb⟩; have B2 := Lib.hid (thenBelow HB.out hb); have S2 := Lib.hid (HS.out.over hb); clear hb))
            go_quiet ((go_at_call 29; with_reducible exact Calls.quiet_of_same (HL.out _ _ (S2.out.over (below_new _ _)))))
            go_wp2
            go_ret2
            exact ⟨by first | (rw [HE.out]; done) | (rw [HE.out]; rfl), thenBelow (grow B2.out _) (drewN_below _ _)⟩
        · have m2 : (pk != 5) = true := by simpa using hk
          have HE : Hid (readF n F = (⟨#[]⟩, 25)) := HBd.out (by rw [HGd.out]; simp; intros; omega)
          clear HGd HBd HRb HRg HI
          go_wp2_with (first
            | (go_at_call 28; (with_reducible refine (HGi.out).mono ?_); rintro e w2 ⟨rfl, hb⟩; have B2 := Lib.hid (thenBelow HB.out hb); have S2 := Lib.hid (HS.out.over hb); clear hb))
          go_quiet (fail)
          go_wp2
          go_ret2
          exact ⟨by first | (rw [HE.out]; done) | (rw [HE.out]; rfl), thenBelow (grow B2.out _) (drewN_below _ _)⟩
      · have m1 : (pe != 0) = true := by simpa using he
        have HE : Hid (readF n F = (⟨#[]⟩, 25)) := HBd.out (by rw [HGd.out]; simp; intros; omega)
        clear HGd HBd HRb HRg HI
        go_wp2_with (first
          | (go_at_call 28; (with_reducible refine (HGi.out).mono ?_); rintro e w2 ⟨rfl, hb⟩; have B2 := Lib.hid (thenBelow HB.out hb); have S2 := Lib.hid (HS.out.over hb); clear hb))
        go_quiet (fail)
        go_wp2
        go_ret2
        exact ⟨by first | (rw [HE.out]; done) | (rw [HE.out]; rfl), thenBelow (grow B2.out _) (drewN_below _ _)⟩
    · have e9 : i = N := by omega
      subst e9
      have k2 : decide ((i : Int) < (i : Int)) = false := decide_eq_false (by omega)
      have HE := Lib.hid (HRg.out HI.out)
      clear HRg HRb
      have HT := Lib.hid (HS.out.text HB.out)
      go_wp2_with (first
        | (go_at_call 31; (with_reducible refine (HT.out).mono ?_); rintro e w2 ⟨rfl, hb⟩; have B2 := Lib.hid hb; clear hb))
      go_ret2
      exact ⟨by rw [HE.out]; rfl, B2.out⟩

set_option maxRecDepth 100000 in
set_option maxHeartbeats 1000000 in
theorem read_no (w : World) (s : ByteArray) (v : Value) (hu : unrefB s = (0, 0, 6)) :
    Calls Try.prog 16 #[.string s, v] w fun e w' => e = .returned (.tuple #[.string ⟨#[]⟩, .int .i64 6]) ∧ Below w.heap.size w w' := by
  have HU := Lib.hid (fun W => unref_any W s)
  rw [hu] at HU
  simp only at HU
  clear hu
  go_enter Try.func16, Try.ntmps16
  go_wp2_with (first
    | (go_at_call 10; (with_reducible refine (HU.out _).mono ?_); rintro e w0 ⟨rfl, hb⟩; have B0 := Lib.hid hb; clear hb))
  go_ret2
  exact ⟨rfl, B0.out⟩

end Go.Proofs.Ytpbaodjmkdcihaa.P11
