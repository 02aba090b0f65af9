/-
  A value in pages: the reference's LayBig.
-/
import Derived.Test.YtpbaodjmkdcihaaN2
import Derived.Test.YtpbaodjmkdcihaaN3
import Derived.Deep.DeepAppendRoom
namespace Go.Proofs.Ytpbaodjmkdcihaa.P11
open Go Go.RowKit Go.Lib Go.Proofs.Ytpbaodjmkdcihaa.PK

/-- the k-th page of a value -/
def pageB (value : ByteArray) (first tx : Int) (k : Nat) : Pg := ⟨5, first + k, tx, value.extract (232 * k) (min (232 * k + 232) value.size)⟩
def pagesB (value : ByteArray) (first tx : Int) (n : Nat) : List Pg := (List.range n).map (pageB value first tx)
/-- may a value stand there? -/
def layOk (value : ByteArray) (first tx : Int) : Prop := value.size ≤ 2000 ∧ 2 ≤ first ∧ first + (needN value.size : Nat) ≤ 4000 ∧ 0 ≤ tx ∧ tx ≤ 1099511627776
instance (value : ByteArray) (first tx : Int) : Decidable (layOk value first tx) := by unfold layOk; infer_instance
def layB (value : ByteArray) (first tx : Int) : List Pg × Int := if layOk value first tx then (pagesB value first tx (needN value.size), 0) else ([], 1)
theorem pagesB_length (value : ByteArray) (first tx : Int) (n : Nat) : (pagesB value first tx n).length = n := by simp [pagesB]
theorem pagesB_snoc (value : ByteArray) (first tx : Int) (n : Nat) : pagesB value first tx (n + 1) = pagesB value first tx n ++ [pageB value first tx n] := by simp [pagesB, List.range_succ]
theorem pagesB_at {value : ByteArray} {first tx : Int} {n k : Nat} (h : k < n) : (pagesB value first tx n)[k]? = some (pageB value first tx k) := by simp [pagesB, h]
theorem pageB_size (value : ByteArray) (first tx : Int) (k : Nat) : (pageB value first tx k).body.size = min (232 * k + 232) value.size - 232 * k := by
  show (value.extract _ _).size = _
  rw [ByteArray.size_extract]
  omega
theorem pageB_ok {value : ByteArray} {first tx : Int} (h2 : 2 ≤ first) (k : Nat) : (pageB value first tx k).ok ↔ first + k < 4000 ∧ 0 ≤ tx ∧ tx ≤ 1099511627776 := by
  have hs := pageB_size value first tx k
  constructor
  · intro h
    exact ⟨h.2.2.2.1, h.2.2.2.2.1, h.2.2.2.2.2.1⟩
  · rintro ⟨h, h3, h4⟩
    refine ⟨by show (1 : Int) ≤ 5; omega, by show (5 : Int) ≤ 5; omega, by show 0 ≤ first + (k : Int); omega, h, h3, h4, ?_⟩
    omega
/-- where a page begins there is a byte, or it is the first one -/
theorem need_in {n k : Nat} (h : k < needN n) : 232 * k ≤ n := by unfold needN at h; omega

/-- a page's box behind a call -/
theorem page_cells {w w' : World} {a b c d : Value} (hb : Below (w.alloc (.cells #[a, b, c, d] 33)).heap.size (w.alloc (.cells #[a, b, c, d] 33)) w') :
    w'.cell? ⟨w.heap.size, 0, none⟩ = some a ∧ w'.cell? ⟨w.heap.size, 1, none⟩ = some b ∧ w'.cell? ⟨w.heap.size, 2, none⟩ = some c ∧ w'.cell? ⟨w.heap.size, 3, none⟩ = some d :=
  ⟨(hb.cell (p := ⟨w.heap.size, 0, none⟩) (by simp)).trans (by rw [cell_at (new_at w _ _)]; rfl), (hb.cell (p := ⟨w.heap.size, 1, none⟩) (by simp)).trans (by rw [cell_at (new_at w _ _)]; rfl),
   (hb.cell (p := ⟨w.heap.size, 2, none⟩) (by simp)).trans (by rw [cell_at (new_at w _ _)]; rfl), (hb.cell (p := ⟨w.heap.size, 3, none⟩) (by simp)).trans (by rw [cell_at (new_at w _ _)]; rfl)⟩
/-- a row of pages that grows -/
structure LyS (w : World) (v : Value) (l : List Pg) (wr : World) : Prop where
  row : wr.ownsRow w.heap.size 33 4 v l.length (cellsP l).flatten
  below : Below w.heap.size w wr
theorem LyS.start (w : World) : LyS w (.slice none 0 0) [] w := ⟨World.ownsRow_nil _ _ _ _, Below.refl _ _⟩
theorem LyS.over {w wr w' : World} {v : Value} {l : List Pg} (h : LyS w v l wr) (k : Below wr.heap.size wr w') : LyS w v l w' := ⟨owns_below h.row k, thenBelow h.below k⟩
theorem LyS.grown {w wr w' : World} {v v' : Value} {l : List Pg} (h : LyS w v l wr) (c : Pg) (hown : w'.ownsRow w.heap.size 33 4 v' (l.length + 1) ((cellsP l).flatten ++ [.int .i64 c.k, .int .i64 c.id, .int .i64 c.tx, .string c.body])) (hg : wr.grownBy w' v.ownBlock) : LyS w v' (l ++ [c]) w' := by
  refine ⟨?_, h.below.grown hg h.below.size (fun k hk => (h.row.lt k hk).1)⟩
  rw [cellsP_snoc, List.length_append, List.length_singleton]
  exact hown
theorem LyS.own {w wr : World} {v : Value} {l : List Pg} (h : LyS w v l wr) (hl : l.length ≤ 1000000) : OwnP w.heap.size wr v l := ⟨h.row, hl⟩

set_option maxRecDepth 100000 in
set_option maxHeartbeats 4000000 in
theorem rlay_any (w : World) (value : ByteArray) (first tx : Int) (hv : value.size ≤ 1000000) :
    Calls Try.prog 7 #[.string value, .int .i64 first, .int .i64 tx] w fun e w' => ∃ v, e = .returned (.tuple #[v, .int .i64 (layB value first tx).2]) ∧ OwnP w.heap.size w' v (layB value first tx).1 ∧ Below w.heap.size w w' := by
  by_cases h0 : 2000 < value.size
  · have e : layB value first tx = ([], 1) := by unfold layB; rw [if_neg (fun h => by have := h.1; omega)]
    rw [e]
    have k0 : decide ((2000 : Int) < (value.size : Int)) = true := decide_eq_true (by omega)
    have k0' : decide (2000 < value.size) = true := decide_eq_true (by omega)
    clear e
    go_enter Try.func7, Try.ntmps7
    go_wp2
    go_ret2
    exact ⟨_, rfl, OwnP.nil _ _, Below.refl _ _⟩
  · have k0 : decide ((2000 : Int) < (value.size : Int)) = false := decide_eq_false (by omega)
    have k0' : decide (2000 < value.size) = false := decide_eq_false (by omega)
    by_cases h1 : first < 2
    · have e : layB value first tx = ([], 1) := by unfold layB; rw [if_neg (fun h => by have := h.2.1; omega)]
      rw [e]
      have k1 : decide (first < 2) = true := decide_eq_true h1
      clear e
      go_enter Try.func7, Try.ntmps7
      go_wp2
      go_ret2
      exact ⟨_, rfl, OwnP.nil _ _, Below.refl _ _⟩
    · have k1 : decide (first < 2) = false := decide_eq_false h1
      obtain ⟨i0, hi0, hz0, hz1, hz2⟩ := info_parts infoEPages
      obtain ⟨N, hN⟩ : ∃ N, N = needN value.size := ⟨_, rfl⟩
      have HNd : Hid (∀ W, Calls Try.prog 13 #[.int .i64 value.size] W fun e w' => e = .returned (.int .i64 N) ∧ Below W.heap.size W w') := fun W => by
        have := rNeed_any W value.size (by omega)
        rwa [needB_nat, ← hN] at this
      have hNs : N ≤ 10 := by rw [hN]; unfold needN; omega
      have HV := Lib.hid (fun W p => rValid_any W p)
      have HIn : Hid (∀ k, k < N → 232 * k ≤ value.size) := fun k hk => need_in (hN ▸ hk)
      have HBad : Hid (¬ (first + (N : Int) ≤ 4000 ∧ 0 ≤ tx ∧ tx ≤ 1099511627776) → layB value first tx = ([], 1)) := fun h => by
        unfold layB
        rw [if_neg (fun q => h ⟨by rw [hN]; exact q.2.2.1, q.2.2.2⟩)]
      have HGood : Hid (first + (N : Int) ≤ 4000 ∧ 0 ≤ tx ∧ tx ≤ 1099511627776 → layB value first tx = (pagesB value first tx N, 0)) := fun h => by
        unfold layB
        rw [if_pos ⟨by omega, by omega, by rw [← hN]; exact h.1, h.2.1, h.2.2⟩, hN]
      have hNp : 1 ≤ N := by rw [hN]; exact needN_pos _
      have HOk := Lib.hid (fun k => pageB_ok (value := value) (tx := tx) (show 2 ≤ first by omega) k)
      clear hN
      go_enter Try.func7, Try.ntmps7
      go_wp2
      go_loopw [8, 9] (fun vl vi wr => ∃ i : Nat, i ≤ N ∧ vi = .int .i64 i ∧ Hid (i = 0 ∨ (first + (i : Int) ≤ 4000 ∧ 0 ≤ tx ∧ tx ≤ 1099511627776)) ∧ Hid (LyS w vl (pagesB value first tx i) wr)) (fun _ vi _ => N - (RowKit.intOf vi).toNat)
      case atStart => exact ⟨0, Nat.zero_le _, rfl, .inl rfl, LyS.start w⟩
      case round =>
        obtain ⟨i, hi, rfl, HI, HS⟩ := hrel
        by_cases hlt : i < N
        · have k2 : (i : Int) < (N : Int) := by omega
          have hin := HIn.out i hlt
          by_cases hf : first < 4000
          · have k3 : decide ((4000 : Int) ≤ first) = false := decide_eq_false (by omega)
            have hw1 : IntKind.i64.wrap (first + (i : Int)) = first + (i : Int) := by rw [IntKind.wrap_i64]; omega
            by_cases hm : 232 * i + 232 ≤ value.size
            · by_cases hok : first + (i : Int) < 4000 ∧ 0 ≤ tx ∧ tx ≤ 1099511627776
              · have hmi : 232 * (i : Int) + 232 ≤ (value.size : Int) := by omega
                have hP : pageB value first tx i = ⟨5, first + i, tx, value.extract (232 * i) (232 * i + 232)⟩ := by unfold pageB; rw [Nat.min_eq_left hm]
                have HVi : Hid (∀ W, Calls Try.prog 17 #[.agg #[.int .i64 5, .int .i64 (first + i), .int .i64 tx, .string (value.extract (232 * i) (232 * i + 232))]] W fun r w' => r = .returned (.bool (decide (pageB value first tx i).ok)) ∧ Below W.heap.size W w') := fun W => by
                  have := HV.out W (pageB value first tx i)
                  rw [hP] at this ⊢
                  exact this
                rw [decide_eq_true ((HOk.out i).2 hok)] at HVi
                have HNx : Hid (pagesB value first tx (i + 1) = pagesB value first tx i ++ [⟨5, first + i, tx, value.extract (232 * i) (232 * i + 232)⟩]) := by show _ = _; rw [pagesB_snoc, hP]
                have HI2 : Hid (first + ((i + 1 : Nat) : Int) ≤ 4000 ∧ 0 ≤ tx ∧ tx ≤ 1099511627776) := ⟨by omega, hok.2⟩
                obtain ⟨L, hL⟩ : ∃ L, L = pagesB value first tx i := ⟨_, rfl⟩
                have hLl : L.length = i := by rw [hL, pagesB_length]
                rw [← hL] at HS HNx
                clear hP hok HV HOk hL HBad HI
                obtain ⟨va, vn, vc, rfl⟩ := owns_shape HS.out.row
                go_wp2_with (first
                  | (go_at_call 13; (with_reducible refine (HNd.out _).mono ?_); rintro e w1 ⟨rfl, hb⟩; have S1 := Lib.hid (HS.out.over hb); clear hb)
                  | (go_at_call 17; (with_reducible refine (HVi.out _).mono ?_); rintro e w2 ⟨rfl, hb⟩; have S2 := Lib.hid ((S1.out.over (below_new _ _)).over hb); obtain ⟨c0, c1, c2, c3⟩ := page_cells hb; clear hb)
                  | (at_builtin; refine wpList_append_own _ rfl _ _ 23 rfl w.heap.size 33 i0 (Value.agg #[.int .i64 0, .int .i64 0, .int .i64 0, .string ⟨#[]⟩]) 4 40 Try.underlying23 hi0 hz0 hz1 hz2 rfl (by decide) _ L.length (cellsP L).flatten rfl (S2.out.row.alloc _) ⟨w2.heap.size, 0, none⟩ 1 1 [.int .i64 5, .int .i64 (first + i), .int .i64 tx, .string (value.extract (232 * i) (232 * i + 232))] rfl rfl ?c1 ?c2 ?c3 ?c4 ?c5 ?_))
                case c1 => simpa using cells_new w2 [.int .i64 5, .int .i64 (first + i), .int .i64 tx, .string (value.extract (232 * i) (232 * i + 232))] 33
                case c2 => exact kPages.one _ ⟨_, _, _, _, rfl⟩
                case c3 => unfold maxLen; omega
                case c4 => omega
                case c5 => have := S2.out.below.size; simp; omega
                intro v' w5 hown' hgrow _
                have S5 := Lib.hid ((S2.out.over (below_new _ _)).grown ⟨5, first + i, tx, value.extract (232 * i) (232 * i + 232)⟩ (by rw [hLl]; exact hown') hgrow)
                clear hown' hgrow
                go_wp2
                go_roundw
                case rel => exact ⟨i + 1, by omega, by go_num, .inr HI2.out, by rw [HNx.out]; exact S5⟩
                case measure => simp [RowKit.intOf]; omega
              · have hmi : 232 * (i : Int) + 232 ≤ (value.size : Int) := by omega
                have hP : pageB value first tx i = ⟨5, first + i, tx, value.extract (232 * i) (232 * i + 232)⟩ := by unfold pageB; rw [Nat.min_eq_left hm]
                have HVi : Hid (∀ W, Calls Try.prog 17 #[.agg #[.int .i64 5, .int .i64 (first + i), .int .i64 tx, .string (value.extract (232 * i) (232 * i + 232))]] W fun r w' => r = .returned (.bool (decide (pageB value first tx i).ok)) ∧ Below W.heap.size W w') := fun W => by
                  have := HV.out W (pageB value first tx i)
                  rw [hP] at this ⊢
                  exact this
                rw [decide_eq_false (fun q => hok ((HOk.out i).1 q))] at HVi
                have HE := Lib.hid (HBad.out (fun q => hok ⟨by omega, q.2⟩))
                clear hP hok HV HOk HBad HGood HI
                go_wp2_with (first
                  | (go_at_call 13; (with_reducible refine (HNd.out _).mono ?_); rintro e w1 ⟨rfl, hb⟩; have S1 := Lib.hid (HS.out.over hb); clear hb)
                  | (go_at_call 17; (with_reducible refine (HVi.out _).mono ?_); rintro e w2 ⟨rfl, hb⟩; have S2 := Lib.hid ((S1.out.over (below_new _ _)).over hb); clear hb))
                go_ret2
                exact ⟨_, by rw [HE.out]; rfl, by rw [HE.out]; exact OwnP.nil _ _, S2.out.below⟩
            · by_cases hok : first + (i : Int) < 4000 ∧ 0 ≤ tx ∧ tx ≤ 1099511627776
              · have hmi : ¬ 232 * (i : Int) + 232 ≤ (value.size : Int) := by omega
                have hmj : (value.size : Int) < 232 * (i : Int) + 232 := by omega
                have hP : pageB value first tx i = ⟨5, first + i, tx, value.extract (232 * i) value.size⟩ := by unfold pageB; rw [Nat.min_eq_right (by omega)]
                have HVi : Hid (∀ W, Calls Try.prog 17 #[.agg #[.int .i64 5, .int .i64 (first + i), .int .i64 tx, .string (value.extract (232 * i) value.size)]] W fun r w' => r = .returned (.bool (decide (pageB value first tx i).ok)) ∧ Below W.heap.size W w') := fun W => by
                  have := HV.out W (pageB value first tx i)
                  rw [hP] at this ⊢
                  exact this
                rw [decide_eq_true ((HOk.out i).2 hok)] at HVi
                have HNx : Hid (pagesB value first tx (i + 1) = pagesB value first tx i ++ [⟨5, first + i, tx, value.extract (232 * i) value.size⟩]) := by show _ = _; rw [pagesB_snoc, hP]
                have HI2 : Hid (first + ((i + 1 : Nat) : Int) ≤ 4000 ∧ 0 ≤ tx ∧ tx ≤ 1099511627776) := ⟨by omega, hok.2⟩
                obtain ⟨L, hL⟩ : ∃ L, L = pagesB value first tx i := ⟨_, rfl⟩
                have hLl : L.length = i := by rw [hL, pagesB_length]
                rw [← hL] at HS HNx
                clear hP hok HV HOk hL HBad HI
                obtain ⟨va, vn, vc, rfl⟩ := owns_shape HS.out.row
                go_wp2_with (first
                  | (go_at_call 13; (with_reducible refine (HNd.out _).mono ?_); rintro e w1 ⟨rfl, hb⟩; have S1 := Lib.hid (HS.out.over hb); clear hb)
                  | (go_at_call 17; (with_reducible refine (HVi.out _).mono ?_); rintro e w2 ⟨rfl, hb⟩; have S2 := Lib.hid ((S1.out.over (below_new _ _)).over hb); obtain ⟨c0, c1, c2, c3⟩ := page_cells hb; clear hb)
                  | (at_builtin; refine wpList_append_own _ rfl _ _ 23 rfl w.heap.size 33 i0 (Value.agg #[.int .i64 0, .int .i64 0, .int .i64 0, .string ⟨#[]⟩]) 4 40 Try.underlying23 hi0 hz0 hz1 hz2 rfl (by decide) _ L.length (cellsP L).flatten rfl (S2.out.row.alloc _) ⟨w2.heap.size, 0, none⟩ 1 1 [.int .i64 5, .int .i64 (first + i), .int .i64 tx, .string (value.extract (232 * i) value.size)] rfl rfl ?c1 ?c2 ?c3 ?c4 ?c5 ?_))
                case c1 => simpa using cells_new w2 [.int .i64 5, .int .i64 (first + i), .int .i64 tx, .string (value.extract (232 * i) value.size)] 33
                case c2 => exact kPages.one _ ⟨_, _, _, _, rfl⟩
                case c3 => unfold maxLen; omega
                case c4 => omega
                case c5 => have := S2.out.below.size; simp; omega
                intro v' w5 hown' hgrow _
                have S5 := Lib.hid ((S2.out.over (below_new _ _)).grown ⟨5, first + i, tx, value.extract (232 * i) value.size⟩ (by rw [hLl]; exact hown') hgrow)
                clear hown' hgrow
                go_wp2
                go_roundw
                case rel => exact ⟨i + 1, by omega, by go_num, .inr HI2.out, by rw [HNx.out]; exact S5⟩
                case measure => simp [RowKit.intOf]; omega
              · have hmi : ¬ 232 * (i : Int) + 232 ≤ (value.size : Int) := by omega
                have hmj : (value.size : Int) < 232 * (i : Int) + 232 := by omega
                have hP : pageB value first tx i = ⟨5, first + i, tx, value.extract (232 * i) value.size⟩ := by unfold pageB; rw [Nat.min_eq_right (by omega)]
                have HVi : Hid (∀ W, Calls Try.prog 17 #[.agg #[.int .i64 5, .int .i64 (first + i), .int .i64 tx, .string (value.extract (232 * i) value.size)]] W fun r w' => r = .returned (.bool (decide (pageB value first tx i).ok)) ∧ Below W.heap.size W w') := fun W => by
                  have := HV.out W (pageB value first tx i)
                  rw [hP] at this ⊢
                  exact this
                rw [decide_eq_false (fun q => hok ((HOk.out i).1 q))] at HVi
                have HE := Lib.hid (HBad.out (fun q => hok ⟨by omega, q.2⟩))
                clear hP hok HV HOk HBad HGood HI
                go_wp2_with (first
                  | (go_at_call 13; (with_reducible refine (HNd.out _).mono ?_); rintro e w1 ⟨rfl, hb⟩; have S1 := Lib.hid (HS.out.over hb); clear hb)
                  | (go_at_call 17; (with_reducible refine (HVi.out _).mono ?_); rintro e w2 ⟨rfl, hb⟩; have S2 := Lib.hid ((S1.out.over (below_new _ _)).over hb); clear hb))
                go_ret2
                exact ⟨_, by rw [HE.out]; rfl, by rw [HE.out]; exact OwnP.nil _ _, S2.out.below⟩
          · have k3 : decide ((4000 : Int) ≤ first) = true := decide_eq_true (by omega)
            have HE := Lib.hid (HBad.out (fun q => by omega))
            by_cases hm : 232 * i + 232 ≤ value.size
            · have hmi : 232 * (i : Int) + 232 ≤ (value.size : Int) := by omega
              clear HV HOk HBad HGood HI
              go_wp2_with (first
                | (go_at_call 13; (with_reducible refine (HNd.out _).mono ?_); rintro e w1 ⟨rfl, hb⟩; have S1 := Lib.hid (HS.out.over hb); clear hb))
              go_ret2
              exact ⟨_, by rw [HE.out]; rfl, by rw [HE.out]; exact OwnP.nil _ _, (S1.out.over (below_new _ _)).below⟩
            · have hmi : ¬ 232 * (i : Int) + 232 ≤ (value.size : Int) := by omega
              have hmj : (value.size : Int) < 232 * (i : Int) + 232 := by omega
              clear HV HOk HBad HGood HI
              go_wp2_with (first
                | (go_at_call 13; (with_reducible refine (HNd.out _).mono ?_); rintro e w1 ⟨rfl, hb⟩; have S1 := Lib.hid (HS.out.over hb); clear hb))
              go_ret2
              exact ⟨_, by rw [HE.out]; rfl, by rw [HE.out]; exact OwnP.nil _ _, (S1.out.over (below_new _ _)).below⟩
        · have e9 : i = N := by omega
          subst e9
          have k2 : decide ((i : Int) < (i : Int)) = false := decide_eq_false (by omega)
          have HE := Lib.hid (HGood.out (HI.out.resolve_left (by omega)))
          have hLl := pagesB_length value first tx i
          obtain ⟨va, vn, vc, rfl⟩ := owns_shape HS.out.row
          clear HV HOk HBad HGood HI
          go_wp2_with (first
            | (go_at_call 13; (with_reducible refine (HNd.out _).mono ?_); rintro e w1 ⟨rfl, hb⟩; have S1 := Lib.hid (HS.out.over hb); clear hb))
          go_ret2
          exact ⟨_, by rw [HE.out]; rfl, by rw [HE.out]; exact S1.out.own (by omega), S1.out.below⟩

end Go.Proofs.Ytpbaodjmkdcihaa.P11
